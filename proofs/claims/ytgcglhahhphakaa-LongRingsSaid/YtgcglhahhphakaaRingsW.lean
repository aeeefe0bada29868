/- lodgelaw02.LongRings answers true, whatever lists of limbs come in, and leaves memory below as it was. No condition. -/
import Derived.Test.YtgcglhahhphakaaAwake2
namespace Go.Proofs.Ytgcglhahhphakaa
open Go.RowKit Go.Shelf Num
set_option linter.unusedVariables false

theorem val_one2 : val [1] = 1 := by decide +kernel

set_option maxRecDepth 100000 in
set_option maxHeartbeats 8000000 in
theorem longRings_big0 (a0 : Option Addr) (n0 c0 : Nat) (a1 : Option Addr) (n1 c1 : Nat) (a2 : Option Addr) (n2 c2 : Nat) (w : World)  (h0 : ¬ n0 ≤ 30) :
    Calls Try.prog 6 #[.slice a0 n0 c0, .slice a1 n1 c1, .slice a2 n2 c2] w fun e w' => e = .returned (.bool true) ∧ Below w.heap.size w w' := by
  have d0 : decide (30 < (n0 : Int)) = true := decide_eq_true (by omega)
  go_enter Try.func6, Try.ntmps6
  go_wp2_with fail
  refine (awake2_any _).mono ?_
  rintro e W1 ⟨rfl, hB⟩
  go_wp2
  go_ret
  exact ⟨rfl, hB⟩

set_option maxRecDepth 100000 in
set_option maxHeartbeats 8000000 in
theorem longRings_big1 (a0 : Option Addr) (n0 c0 : Nat) (a1 : Option Addr) (n1 c1 : Nat) (a2 : Option Addr) (n2 c2 : Nat) (w : World) (h0 : n0 ≤ 30) (h1 : ¬ n1 ≤ 30) :
    Calls Try.prog 6 #[.slice a0 n0 c0, .slice a1 n1 c1, .slice a2 n2 c2] w fun e w' => e = .returned (.bool true) ∧ Below w.heap.size w w' := by
  have d0 : decide (30 < (n0 : Int)) = false := decide_eq_false (by omega)
  have d1 : decide (30 < (n1 : Int)) = true := decide_eq_true (by omega)
  go_enter Try.func6, Try.ntmps6
  go_wp2_with fail
  refine (awake2_any _).mono ?_
  rintro e W1 ⟨rfl, hB⟩
  go_wp2
  go_ret
  exact ⟨rfl, hB⟩

set_option maxRecDepth 100000 in
set_option maxHeartbeats 8000000 in
theorem longRings_big2 (a0 : Option Addr) (n0 c0 : Nat) (a1 : Option Addr) (n1 c1 : Nat) (a2 : Option Addr) (n2 c2 : Nat) (w : World) (h0 : n0 ≤ 30) (h1 : n1 ≤ 30) (h2 : ¬ n2 ≤ 30) :
    Calls Try.prog 6 #[.slice a0 n0 c0, .slice a1 n1 c1, .slice a2 n2 c2] w fun e w' => e = .returned (.bool true) ∧ Below w.heap.size w w' := by
  have d0 : decide (30 < (n0 : Int)) = false := decide_eq_false (by omega)
  have d1 : decide (30 < (n1 : Int)) = false := decide_eq_false (by omega)
  have d2 : decide (30 < (n2 : Int)) = true := decide_eq_true (by omega)
  go_enter Try.func6, Try.ntmps6
  go_wp2_with fail
  refine (awake2_any _).mono ?_
  rintro e W1 ⟨rfl, hB⟩
  go_wp2
  go_ret
  exact ⟨rfl, hB⟩

set_option maxRecDepth 100000 in
set_option maxHeartbeats 8000000 in
theorem longRings_small (a0 : Option Addr) (c0 : Nat) (xs : List Nat) (a1 : Option Addr) (c1 : Nat) (ys : List Nat) (a2 : Option Addr) (c2 : Nat) (zs : List Nat) (w : World) (La : Lim w.heap.size w (.slice a0 xs.length c0) xs) (h0 : xs.length ≤ 30) (Lb : Lim w.heap.size w (.slice a1 ys.length c1) ys) (h1 : ys.length ≤ 30) (Lc : Lim w.heap.size w (.slice a2 zs.length c2) zs) (h2 : zs.length ≤ 30) :
    Calls Try.prog 6 #[.slice a0 xs.length c0, .slice a1 ys.length c1, .slice a2 zs.length c2] w fun e w' => e = .returned (.bool true) ∧ Below w.heap.size w w' := by
  have HV0 := Lib.hid (val_pow La.ok h0)
  have d0 : decide (30 < (xs.length : Int)) = false := decide_eq_false (by omega)
  have HV1 := Lib.hid (val_pow Lb.ok h1)
  have d1 : decide (30 < (ys.length : Int)) = false := decide_eq_false (by omega)
  have HV2 := Lib.hid (val_pow Lc.ok h2)
  have d2 : decide (30 < (zs.length : Int)) = false := decide_eq_false (by omega)
  go_enter Try.func6, Try.ntmps6
  go_wp2_with fail
  refine (mul_any _ _ xs ys _ La Lb (by omega) (by omega)).mono ?_
  rintro e W1 ⟨vm, rfl, Lm, hb⟩
  replace La := La.next hb
  replace Lb := Lb.next hb
  replace Lc := Lc.next hb
  have B := hb
  clear hb
  go_wp2_with fail
  refine (awake2_any _).mono ?_
  rintro e W2 ⟨rfl, hb⟩
  replace La := La.next hb
  replace Lb := Lb.next hb
  replace Lc := Lc.next hb
  replace Lm := Lm.next hb
  replace B := B.trans (hb.mono B.size)
  clear hb
  go_wp2_with fail
  refine (mul_any _ _ ys xs _ Lb La (by omega) (by omega)).mono ?_
  rintro e W3 ⟨v3, rfl, L3, hb⟩
  replace La := La.next hb
  replace Lb := Lb.next hb
  replace Lc := Lc.next hb
  replace Lm := Lm.next hb
  replace B := B.trans (hb.mono B.size)
  clear hb
  rw [Nat.mul_comm (val ys)] at L3
  go_wp2_with fail
  refine (equal_any _ _ _ _ Lm L3 (len_up (mul_pow HV0.out HV1.out) (by omega))).mono ?_
  rintro e W4 ⟨rfl, hb⟩
  replace La := La.next hb
  replace Lb := Lb.next hb
  replace Lc := Lc.next hb
  replace Lm := Lm.next hb
  replace L3 := L3.next hb
  replace B := B.trans (hb.mono B.size)
  clear hb
  go_wp2_with fail
  refine (mul_any _ _ _ zs _ Lm Lc (len_up (mul_pow HV0.out HV1.out) (by omega)) (by omega)).mono ?_
  rintro e W5 ⟨v5, rfl, L5, hb⟩
  replace La := La.next hb
  replace Lb := Lb.next hb
  replace Lc := Lc.next hb
  replace Lm := Lm.next hb
  replace B := B.trans (hb.mono B.size)
  clear hb
  rw [val_limbs] at L5
  go_wp2_with fail
  refine (mul_any _ _ ys zs _ Lb Lc (by omega) (by omega)).mono ?_
  rintro e W6 ⟨v6, rfl, L6, hb⟩
  replace La := La.next hb
  replace Lb := Lb.next hb
  replace Lc := Lc.next hb
  replace L5 := L5.next hb
  replace B := B.trans (hb.mono B.size)
  clear hb
  go_wp2_with fail
  refine (mul_any _ _ xs _ _ La L6 (by omega) (len_up (mul_pow HV1.out HV2.out) (by omega))).mono ?_
  rintro e W7 ⟨v7, rfl, L7, hb⟩
  replace La := La.next hb
  replace Lb := Lb.next hb
  replace Lc := Lc.next hb
  replace L5 := L5.next hb
  replace L6 := L6.next hb
  replace B := B.trans (hb.mono B.size)
  clear hb
  rw [val_limbs, ← Nat.mul_assoc] at L7
  go_wp2_with fail
  refine (equal_any _ _ _ _ L5 L7 (len_up (mul_pow (mul_pow HV0.out HV1.out) HV2.out) (by omega))).mono ?_
  rintro e W8 ⟨rfl, hb⟩
  replace La := La.next hb
  replace Lb := Lb.next hb
  replace Lc := Lc.next hb
  replace L5 := L5.next hb
  replace L7 := L7.next hb
  replace B := B.trans (hb.mono B.size)
  clear hb
  go_wp2_with fail
  refine (refAdd_any _ _ xs ys _ La Lb (by omega) (by omega)).mono ?_
  rintro e W9 ⟨v9, rfl, L9, hb⟩
  replace La := La.next hb
  replace Lb := Lb.next hb
  replace Lc := Lc.next hb
  replace B := B.trans (hb.mono B.size)
  clear hb
  go_wp2_with fail
  refine (mul_any _ _ zs _ _ Lc L9 (by omega) (len_up (add_pow HV0.out HV1.out) (by omega))).mono ?_
  rintro e W10 ⟨v10, rfl, L10, hb⟩
  replace La := La.next hb
  replace Lb := Lb.next hb
  replace Lc := Lc.next hb
  replace L9 := L9.next hb
  replace B := B.trans (hb.mono B.size)
  clear hb
  rw [val_limbs] at L10
  go_wp2_with fail
  refine (mul_any _ _ zs xs _ Lc La (by omega) (by omega)).mono ?_
  rintro e W11 ⟨v11, rfl, L11, hb⟩
  replace La := La.next hb
  replace Lb := Lb.next hb
  replace Lc := Lc.next hb
  replace L10 := L10.next hb
  replace B := B.trans (hb.mono B.size)
  clear hb
  go_wp2_with fail
  refine (mul_any _ _ zs ys _ Lc Lb (by omega) (by omega)).mono ?_
  rintro e W12 ⟨v12, rfl, L12, hb⟩
  replace La := La.next hb
  replace Lb := Lb.next hb
  replace Lc := Lc.next hb
  replace L10 := L10.next hb
  replace L11 := L11.next hb
  replace B := B.trans (hb.mono B.size)
  clear hb
  go_wp2_with fail
  refine (refAdd_any _ _ _ _ _ L11 L12 (len_up (mul_pow HV2.out HV0.out) (by omega)) (len_up (mul_pow HV2.out HV1.out) (by omega))).mono ?_
  rintro e W13 ⟨v13, rfl, L13, hb⟩
  replace La := La.next hb
  replace Lb := Lb.next hb
  replace Lc := Lc.next hb
  replace L10 := L10.next hb
  replace L11 := L11.next hb
  replace L12 := L12.next hb
  replace B := B.trans (hb.mono B.size)
  clear hb
  rw [val_limbs, val_limbs, ← Nat.mul_add] at L13
  go_wp2_with fail
  refine (equal_any _ _ _ _ L10 L13 (len_up (mul_pow HV2.out (add_pow HV0.out HV1.out)) (by omega))).mono ?_
  rintro e W14 ⟨rfl, hb⟩
  replace La := La.next hb
  replace Lb := Lb.next hb
  replace Lc := Lc.next hb
  replace L10 := L10.next hb
  replace L13 := L13.next hb
  replace B := B.trans (hb.mono B.size)
  clear hb
  go_wp2_with fail
  refine (mul_any _ _ xs [1] _ (La.alloc _) (lim_lit1 W14 1 (small_ok (by omega))) (by omega) (by simp)).mono ?_
  rintro e W15 ⟨v15, rfl, L15, hb⟩
  replace La := (La.alloc _).next hb
  replace Lb := (Lb.alloc _).next hb
  replace Lc := (Lc.alloc _).next hb
  replace B := (B.alloc B.size _).trans (hb.mono (by have := B.size; simp; omega))
  clear hb
  rw [val_one2, Nat.mul_one] at L15
  go_wp2_with fail
  refine (refTrim_any _ xs _ La (by omega)).mono ?_
  rintro e W16 ⟨v16, rfl, L16, hb⟩
  replace La := La.next hb
  replace Lb := Lb.next hb
  replace Lc := Lc.next hb
  replace L15 := L15.next hb
  replace B := B.trans (hb.mono B.size)
  clear hb
  go_wp2_with fail
  refine (equal_any _ _ _ _ L15 L16 (len_up HV0.out (by omega))).mono ?_
  rintro e W17 ⟨rfl, hb⟩
  replace La := La.next hb
  replace Lb := Lb.next hb
  replace Lc := Lc.next hb
  replace L15 := L15.next hb
  replace L16 := L16.next hb
  replace B := B.trans (hb.mono B.size)
  clear hb
  go_wp2_with fail
  refine (mul_any _ _ xs [] _ La (Lim.nil _ _) (by omega) (by simp)).mono ?_
  rintro e W18 ⟨v18, rfl, L18, hb⟩
  replace La := La.next hb
  replace Lb := Lb.next hb
  replace Lc := Lc.next hb
  replace B := B.trans (hb.mono B.size)
  clear hb
  rw [show val xs * val [] = 0 from Nat.mul_zero _, limbs_zero] at L18
  obtain ⟨A18, c18, rfl, _⟩ := L18
  go_wp2
  go_ret
  exact ⟨rfl, B⟩

theorem longRings_any (a0 : Option Addr) (n0 c0 : Nat) (a1 : Option Addr) (n1 c1 : Nat) (a2 : Option Addr) (n2 c2 : Nat) (w : World) (w0 : ∃ xs : List Nat, xs.length = n0 ∧ Lim w.heap.size w (.slice a0 n0 c0) xs) (w1 : ∃ xs : List Nat, xs.length = n1 ∧ Lim w.heap.size w (.slice a1 n1 c1) xs) (w2 : ∃ xs : List Nat, xs.length = n2 ∧ Lim w.heap.size w (.slice a2 n2 c2) xs) :
    Calls Try.prog 6 #[.slice a0 n0 c0, .slice a1 n1 c1, .slice a2 n2 c2] w fun e w' => e = .returned (.bool true) ∧ Below w.heap.size w w' := by
  by_cases h0 : n0 ≤ 30
  rotate_left
  · exact longRings_big0 a0 n0 c0 a1 n1 c1 a2 n2 c2 w h0
  by_cases h1 : n1 ≤ 30
  rotate_left
  · exact longRings_big1 a0 n0 c0 a1 n1 c1 a2 n2 c2 w h0 h1
  by_cases h2 : n2 ≤ 30
  rotate_left
  · exact longRings_big2 a0 n0 c0 a1 n1 c1 a2 n2 c2 w h0 h1 h2
  obtain ⟨x0, e0, L0⟩ := w0
  subst e0
  obtain ⟨x1, e1, L1⟩ := w1
  subst e1
  obtain ⟨x2, e2, L2⟩ := w2
  subst e2
  exact longRings_small _ _ _ _ _ _ _ _ _ w L0 h0 L1 h1 L2 h2

end Go.Proofs.Ytgcglhahhphakaa
