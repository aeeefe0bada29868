/- lodgelaw03.OctetOrder answers true, whatever lists of limbs come in, and leaves memory below as it was. No condition. -/
import Derived.Test.YtepdmjdhlphkcaaAwake3
namespace Go.Proofs.Ytepdmjdhlphkcaa
open Go.RowKit Go.Shelf Num
set_option linter.unusedVariables false

theorem less_vals : ∀ (l m : List UInt8), l.length = m.length → Op.bytesLess l m = decide (bval l < bval m)
  | [], [], _ => rfl
  | [], _ :: _, h => by simp at h
  | _ :: _, [], h => by simp at h
  | a :: x, b :: y, h => by
    have h1 : x.length = y.length := by simpa using h
    have ih := less_vals x y h1
    have p := bval_lt x
    have q := bval_lt y
    rw [bval_cons, bval_cons, h1]
    rw [h1] at p
    have e : Op.bytesLess (a :: x) (b :: y) = (decide (a < b) || (a == b && Op.bytesLess x y)) := rfl
    rw [e, ih]
    generalize 256 ^ y.length = P at *
    generalize bval x = X at *
    generalize bval y = Y at *
    rcases Nat.lt_trichotomy a.toNat b.toNat with hlt | heq | hgt
    · have h2 : a < b := UInt8.lt_iff_toNat_lt.2 hlt
      have h3 : (a.toNat + 1) * P ≤ b.toNat * P := Nat.mul_le_mul_right _ hlt
      rw [Nat.add_mul] at h3
      have h4 : a.toNat * P + X < b.toNat * P + Y := by omega
      simp [h2, h4]
    · have h2 : a = b := UInt8.toNat_inj.1 heq
      subst h2
      have h3 : ¬ a < a := fun h => by have := UInt8.lt_iff_toNat_lt.1 h; omega
      simp [h3]
    · have h2 : ¬ a < b := fun h => by have := UInt8.lt_iff_toNat_lt.1 h; omega
      have h3 : (b.toNat + 1) * P ≤ a.toNat * P := Nat.mul_le_mul_right _ hgt
      rw [Nat.add_mul] at h3
      have h4 : ¬ a.toNat * P + X < b.toNat * P + Y := by omega
      have h5 : ¬ a = b := fun h => by subst h; omega
      simp [h2, h4, h5]
theorem less_byts {a b : Nat} (h : nbyt a = nbyt b) : Op.bytesLess (byts a) (byts b) = decide (a < b) := by
  rw [less_vals _ _ (by rw [byts_length, byts_length, h]), bval_bytes, bval_bytes]
theorem same_byts (a b : Nat) : (byts a == byts b) = decide (a = b) := by
  by_cases h : a = b
  · subst h; simp
  · have : byts a ≠ byts b := fun e => h (byts_inj e)
    simp [h, this]
theorem cmp_less (a b : Nat) : decide (cmpN a b < 0) = decide (a < b) := by
  unfold cmpN
  by_cases h : a < b
  · simp [h]
  · rw [if_neg h]
    by_cases h2 : b < a
    · simp [h, h2]
    · simp [h, h2]

set_option maxRecDepth 100000 in
set_option maxHeartbeats 8000000 in
theorem octetOrder_big0 (a0 : Option Addr) (n0 c0 : Nat) (a1 : Option Addr) (n1 c1 : Nat) (w : World)  (h0 : ¬ n0 ≤ 60) :
    Calls Try.prog 5 #[.slice a0 n0 c0, .slice a1 n1 c1] w fun e w' => e = .returned (.bool true) ∧ Below w.heap.size w w' := by
  have d0 : decide (60 < (n0 : Int)) = true := decide_eq_true (by omega)
  go_enter Try.func5, Try.ntmps5
  go_wp2_with fail
  refine (awake3_any _).mono ?_
  rintro e W1 ⟨rfl, hB⟩
  go_wp2
  go_ret
  exact ⟨rfl, hB⟩

set_option maxRecDepth 100000 in
set_option maxHeartbeats 8000000 in
theorem octetOrder_big1 (a0 : Option Addr) (n0 c0 : Nat) (a1 : Option Addr) (n1 c1 : Nat) (w : World) (h0 : n0 ≤ 60) (h1 : ¬ n1 ≤ 60) :
    Calls Try.prog 5 #[.slice a0 n0 c0, .slice a1 n1 c1] w fun e w' => e = .returned (.bool true) ∧ Below w.heap.size w w' := by
  have d0 : decide (60 < (n0 : Int)) = false := decide_eq_false (by omega)
  have d1 : decide (60 < (n1 : Int)) = true := decide_eq_true (by omega)
  go_enter Try.func5, Try.ntmps5
  go_wp2_with fail
  refine (awake3_any _).mono ?_
  rintro e W1 ⟨rfl, hB⟩
  go_wp2
  go_ret
  exact ⟨rfl, hB⟩

set_option maxRecDepth 100000 in
set_option maxHeartbeats 8000000 in
theorem octetOrder_lt (a0 : Option Addr) (c0 : Nat) (xs : List Nat) (a1 : Option Addr) (c1 : Nat) (ys : List Nat) (w : World) (La : Lim w.heap.size w (.slice a0 xs.length c0) xs) (h0 : xs.length ≤ 60) (Lb : Lim w.heap.size w (.slice a1 ys.length c1) ys) (h1 : ys.length ≤ 60) (hc : nbyt (val xs) < nbyt (val ys)) :
    Calls Try.prog 5 #[.slice a0 xs.length c0, .slice a1 ys.length c1] w fun e w' => e = .returned (.bool true) ∧ Below w.heap.size w w' := by
  have d0 : decide (60 < (xs.length : Int)) = false := decide_eq_false (by omega)
  have d1 : decide (60 < (ys.length : Int)) = false := decide_eq_false (by omega)
  obtain ⟨S, hSS, _, hS2, hS3⟩ := text_of (byts (val xs))
  obtain ⟨T, hTT, _, hT2, hT3⟩ := text_of (byts (val ys))
  rw [byts_length] at hS2 hT2
  have HC := Lib.hid hc
  have HSS := Lib.hid hSS
  have HTT := Lib.hid hTT
  have f1 : decide (S.size < T.size) = true := decide_eq_true (by rw [hS2, hT2]; exact hc)
  have hcm : decide (cmpN (val xs) (val ys) < 0) = true := by rw [cmp_less]; exact decide_eq_true (nbyt_mono hc)
  have hq : (S.toList == T.toList) = decide (val xs = val ys) := by rw [hS3, hT3]; exact same_byts _ _
  clear hSS hTT hS2 hT2 hS3 hT3 hc
  go_enter Try.func5, Try.ntmps5
  go_wp2_with fail
  refine (to_any _ xs _ La (by omega)).mono ?_
  rw [HSS.out]
  rintro e W1 ⟨rfl, hb⟩
  replace La := La.next hb
  replace Lb := Lb.next hb
  have B := hb
  clear hb
  go_wp2_with fail
  refine (to_any _ ys _ Lb (by omega)).mono ?_
  rw [HTT.out]
  rintro e W2 ⟨rfl, hb⟩
  replace La := La.next hb
  replace Lb := Lb.next hb
  replace B := B.trans (hb.mono B.size)
  clear hb
  go_wp2_with fail
  refine (awake3_any _).mono ?_
  rintro e W3 ⟨rfl, hb⟩
  replace La := La.next hb
  replace Lb := Lb.next hb
  replace B := B.trans (hb.mono B.size)
  clear hb
  go_wp2_with fail
  refine (refCompare_any _ _ xs ys _ La Lb (by omega) (by omega)).mono ?_
  rintro e w' ⟨rfl, rfl⟩
  go_wp2_with fail
  refine (same_is _ _ xs ys _ La Lb (by omega) (by omega)).mono ?_
  rintro e w' ⟨rfl, rfl⟩
  go_wp2
  go_ret
  exact ⟨rfl, B⟩

set_option maxRecDepth 100000 in
set_option maxHeartbeats 8000000 in
theorem octetOrder_gt (a0 : Option Addr) (c0 : Nat) (xs : List Nat) (a1 : Option Addr) (c1 : Nat) (ys : List Nat) (w : World) (La : Lim w.heap.size w (.slice a0 xs.length c0) xs) (h0 : xs.length ≤ 60) (Lb : Lim w.heap.size w (.slice a1 ys.length c1) ys) (h1 : ys.length ≤ 60) (hc : nbyt (val ys) < nbyt (val xs)) :
    Calls Try.prog 5 #[.slice a0 xs.length c0, .slice a1 ys.length c1] w fun e w' => e = .returned (.bool true) ∧ Below w.heap.size w w' := by
  have d0 : decide (60 < (xs.length : Int)) = false := decide_eq_false (by omega)
  have d1 : decide (60 < (ys.length : Int)) = false := decide_eq_false (by omega)
  obtain ⟨S, hSS, _, hS2, hS3⟩ := text_of (byts (val xs))
  obtain ⟨T, hTT, _, hT2, hT3⟩ := text_of (byts (val ys))
  rw [byts_length] at hS2 hT2
  have HC := Lib.hid hc
  have HSS := Lib.hid hSS
  have HTT := Lib.hid hTT
  have f1 : decide (S.size < T.size) = false := decide_eq_false (by rw [hS2, hT2]; omega)
  have f2 : ((S.size : Int) == (T.size : Int)) = false := by rw [hS2, hT2]; simp; omega
  have hcm : decide (cmpN (val xs) (val ys) < 0) = false := by rw [cmp_less]; exact decide_eq_false (by have := nbyt_mono hc; omega)
  have hq : (S.toList == T.toList) = decide (val xs = val ys) := by rw [hS3, hT3]; exact same_byts _ _
  clear hSS hTT hS2 hT2 hS3 hT3 hc
  go_enter Try.func5, Try.ntmps5
  go_wp2_with fail
  refine (to_any _ xs _ La (by omega)).mono ?_
  rw [HSS.out]
  rintro e W1 ⟨rfl, hb⟩
  replace La := La.next hb
  replace Lb := Lb.next hb
  have B := hb
  clear hb
  go_wp2_with fail
  refine (to_any _ ys _ Lb (by omega)).mono ?_
  rw [HTT.out]
  rintro e W2 ⟨rfl, hb⟩
  replace La := La.next hb
  replace Lb := Lb.next hb
  replace B := B.trans (hb.mono B.size)
  clear hb
  go_wp2_with fail
  refine (awake3_any _).mono ?_
  rintro e W3 ⟨rfl, hb⟩
  replace La := La.next hb
  replace Lb := Lb.next hb
  replace B := B.trans (hb.mono B.size)
  clear hb
  go_wp2_with fail
  refine (refCompare_any _ _ xs ys _ La Lb (by omega) (by omega)).mono ?_
  rintro e w' ⟨rfl, rfl⟩
  go_wp2_with fail
  refine (same_is _ _ xs ys _ La Lb (by omega) (by omega)).mono ?_
  rintro e w' ⟨rfl, rfl⟩
  go_wp2
  go_ret
  exact ⟨rfl, B⟩

set_option maxRecDepth 100000 in
set_option maxHeartbeats 8000000 in
theorem octetOrder_eq (a0 : Option Addr) (c0 : Nat) (xs : List Nat) (a1 : Option Addr) (c1 : Nat) (ys : List Nat) (w : World) (La : Lim w.heap.size w (.slice a0 xs.length c0) xs) (h0 : xs.length ≤ 60) (Lb : Lim w.heap.size w (.slice a1 ys.length c1) ys) (h1 : ys.length ≤ 60) (hc : nbyt (val xs) = nbyt (val ys)) :
    Calls Try.prog 5 #[.slice a0 xs.length c0, .slice a1 ys.length c1] w fun e w' => e = .returned (.bool true) ∧ Below w.heap.size w w' := by
  have d0 : decide (60 < (xs.length : Int)) = false := decide_eq_false (by omega)
  have d1 : decide (60 < (ys.length : Int)) = false := decide_eq_false (by omega)
  obtain ⟨S, hSS, _, hS2, hS3⟩ := text_of (byts (val xs))
  obtain ⟨T, hTT, _, hT2, hT3⟩ := text_of (byts (val ys))
  rw [byts_length] at hS2 hT2
  have HC := Lib.hid hc
  have HSS := Lib.hid hSS
  have HTT := Lib.hid hTT
  have f1 : decide (S.size < T.size) = false := decide_eq_false (by rw [hS2, hT2]; omega)
  have f2 : ((S.size : Int) == (T.size : Int)) = true := by rw [hS2, hT2, hc]; simp
  have f3 : Op.bytesLess S.toList T.toList = decide (val xs < val ys) := by rw [hS3, hT3]; exact less_byts hc
  have hcm : decide (cmpN (val xs) (val ys) < 0) = decide (val xs < val ys) := cmp_less _ _
  have hq : (S.toList == T.toList) = decide (val xs = val ys) := by rw [hS3, hT3]; exact same_byts _ _
  clear hSS hTT hS2 hT2 hS3 hT3 hc
  go_enter Try.func5, Try.ntmps5
  go_wp2_with fail
  refine (to_any _ xs _ La (by omega)).mono ?_
  rw [HSS.out]
  rintro e W1 ⟨rfl, hb⟩
  replace La := La.next hb
  replace Lb := Lb.next hb
  have B := hb
  clear hb
  go_wp2_with fail
  refine (to_any _ ys _ Lb (by omega)).mono ?_
  rw [HTT.out]
  rintro e W2 ⟨rfl, hb⟩
  replace La := La.next hb
  replace Lb := Lb.next hb
  replace B := B.trans (hb.mono B.size)
  clear hb
  go_wp2_with fail
  refine (awake3_any _).mono ?_
  rintro e W3 ⟨rfl, hb⟩
  replace La := La.next hb
  replace Lb := Lb.next hb
  replace B := B.trans (hb.mono B.size)
  clear hb
  go_wp2_with fail
  refine (refCompare_any _ _ xs ys _ La Lb (by omega) (by omega)).mono ?_
  rintro e w' ⟨rfl, rfl⟩
  go_wp2_with fail
  refine (same_is _ _ xs ys _ La Lb (by omega) (by omega)).mono ?_
  rintro e w' ⟨rfl, rfl⟩
  go_wp2
  go_ret
  exact ⟨rfl, B⟩

theorem octetOrder_walk (a0 : Option Addr) (n0 c0 : Nat) (a1 : Option Addr) (n1 c1 : Nat) (w : World) (w0 : ∃ xs : List Nat, xs.length = n0 ∧ Lim w.heap.size w (.slice a0 n0 c0) xs) (w1 : ∃ xs : List Nat, xs.length = n1 ∧ Lim w.heap.size w (.slice a1 n1 c1) xs) :
    Calls Try.prog 5 #[.slice a0 n0 c0, .slice a1 n1 c1] w fun e w' => e = .returned (.bool true) ∧ Below w.heap.size w w' := by
  by_cases h0 : n0 ≤ 60
  · by_cases h1 : n1 ≤ 60
    · obtain ⟨xs, rfl, L⟩ := w0
      obtain ⟨ys, rfl, L1⟩ := w1
      rcases Nat.lt_trichotomy (nbyt (val xs)) (nbyt (val ys)) with h | h | h
      · exact octetOrder_lt a0 c0 xs a1 c1 ys w L h0 L1 h1 h
      · exact octetOrder_eq a0 c0 xs a1 c1 ys w L h0 L1 h1 h
      · exact octetOrder_gt a0 c0 xs a1 c1 ys w L h0 L1 h1 h
    · exact octetOrder_big1 a0 n0 c0 a1 n1 c1 w h0 h1
  · exact octetOrder_big0 a0 n0 c0 a1 n1 c1 w h0

end Go.Proofs.Ytepdmjdhlphkcaa
