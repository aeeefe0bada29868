/- lodgelaw02.LongTells answers true, whatever lists of limbs come in, and leaves memory below as it was. No condition. -/
import Derived.Test.YtgcglhahhphakaaAwake2
import Derived.Test.YtgcglhahhphakaaRefMul
import Derived.Test.YtgcglhahhphakaaRefDiv
namespace Go.Proofs.Ytgcglhahhphakaa
open Go.RowKit Go.Shelf Num
set_option linter.unusedVariables false

set_option maxRecDepth 100000 in
set_option maxHeartbeats 8000000 in
theorem longTells_big0 (a0 : Option Addr) (n0 c0 : Nat) (a1 : Option Addr) (n1 c1 : Nat) (w : World)  (h0 : ¬ n0 ≤ 12) :
    Calls Try.prog 3 #[.slice a0 n0 c0, .slice a1 n1 c1] w fun e w' => e = .returned (.bool true) ∧ Below w.heap.size w w' := by
  have d0 : decide (12 < (n0 : Int)) = true := decide_eq_true (by omega)
  go_enter Try.func3, Try.ntmps3
  go_wp2_with fail
  refine (awake2_any _).mono ?_
  rintro e W1 ⟨rfl, hB⟩
  go_wp2
  go_ret
  exact ⟨rfl, hB⟩

set_option maxRecDepth 100000 in
set_option maxHeartbeats 8000000 in
theorem longTells_big1 (a0 : Option Addr) (n0 c0 : Nat) (a1 : Option Addr) (n1 c1 : Nat) (w : World) (h0 : n0 ≤ 12) (h1 : ¬ n1 ≤ 12) :
    Calls Try.prog 3 #[.slice a0 n0 c0, .slice a1 n1 c1] w fun e w' => e = .returned (.bool true) ∧ Below w.heap.size w w' := by
  have d0 : decide (12 < (n0 : Int)) = false := decide_eq_false (by omega)
  have d1 : decide (12 < (n1 : Int)) = true := decide_eq_true (by omega)
  go_enter Try.func3, Try.ntmps3
  go_wp2_with fail
  refine (awake2_any _).mono ?_
  rintro e W1 ⟨rfl, hB⟩
  go_wp2
  go_ret
  exact ⟨rfl, hB⟩

set_option maxRecDepth 100000 in
set_option maxHeartbeats 8000000 in
theorem longTells_zero (a0 : Option Addr) (c0 : Nat) (xs : List Nat) (a1 : Option Addr) (c1 : Nat) (ys : List Nat) (w : World) (La : Lim w.heap.size w (.slice a0 xs.length c0) xs) (h0 : xs.length ≤ 12) (Lb : Lim w.heap.size w (.slice a1 ys.length c1) ys) (h1 : ys.length ≤ 12) (hz : val ys = 0) :
    Calls Try.prog 3 #[.slice a0 xs.length c0, .slice a1 ys.length c1] w fun e w' => e = .returned (.bool true) ∧ Below w.heap.size w w' := by
  have HZ := Lib.hid hz
  clear hz
  have HV0 := Lib.hid (val_pow La.ok h0)
  have d0 : decide (12 < (xs.length : Int)) = false := decide_eq_false (by omega)
  have HV1 := Lib.hid (val_pow Lb.ok h1)
  have d1 : decide (12 < (ys.length : Int)) = false := decide_eq_false (by omega)
  go_enter Try.func3, Try.ntmps3
  go_wp2_with fail
  refine (divide_zero _ _ xs ys _ La Lb (by omega) (by omega) HZ.out).mono ?_
  rintro e W1 ⟨rfl, hb⟩
  replace La := La.next hb
  replace Lb := Lb.next hb
  have B := hb
  clear hb
  go_wp2_with fail
  refine (refDivide_zero _ _ xs ys _ La Lb (by omega) (by omega) HZ.out).mono ?_
  rintro e W2 ⟨rfl, hb⟩
  replace La := La.next hb
  replace Lb := Lb.next hb
  replace B := B.trans (hb.mono B.size)
  clear hb
  go_wp2_with fail
  refine (awake2_any _).mono ?_
  rintro e W3 ⟨rfl, hb⟩
  replace La := La.next hb
  replace Lb := Lb.next hb
  replace B := B.trans (hb.mono B.size)
  clear hb
  go_wp2_with fail
  refine (mul_any _ _ xs ys _ La Lb (by omega) (by omega)).mono ?_
  rintro e W4 ⟨vm, rfl, Lm, hb⟩
  replace La := La.next hb
  replace Lb := Lb.next hb
  replace B := B.trans (hb.mono B.size)
  clear hb
  go_wp2_with fail
  refine (refMul_any _ _ xs ys _ La Lb (by omega) (by omega)).mono ?_
  rintro e W5 ⟨vn, rfl, Ln, hb⟩
  replace La := La.next hb
  replace Lb := Lb.next hb
  replace Lm := Lm.next hb
  replace B := B.trans (hb.mono B.size)
  clear hb
  go_wp2_with fail
  refine (equal_any _ _ _ _ Lm Ln (len_up (mul_pow HV0.out HV1.out) (by omega))).mono ?_
  rintro e W6 ⟨rfl, hb⟩
  replace La := La.next hb
  replace Lb := Lb.next hb
  replace Lm := Lm.next hb
  replace Ln := Ln.next hb
  replace B := B.trans (hb.mono B.size)
  clear hb
  go_wp2_with fail
  refine (equal_any _ _ [] _ (Lim.nil _ _) (Lim.nil _ _) (by simp)).mono ?_
  rintro e W7 ⟨rfl, hb⟩
  replace La := La.next hb
  replace Lb := Lb.next hb
  replace Lm := Lm.next hb
  replace Ln := Ln.next hb
  replace B := B.trans (hb.mono B.size)
  clear hb
  go_wp2_with fail
  refine (equal_any _ _ [] _ (Lim.nil _ _) (Lim.nil _ _) (by simp)).mono ?_
  rintro e W8 ⟨rfl, hb⟩
  replace La := La.next hb
  replace Lb := Lb.next hb
  replace Lm := Lm.next hb
  replace Ln := Ln.next hb
  replace B := B.trans (hb.mono B.size)
  clear hb
  go_wp2
  go_ret
  exact ⟨rfl, B⟩

set_option maxRecDepth 100000 in
set_option maxHeartbeats 8000000 in
theorem longTells_some (a0 : Option Addr) (c0 : Nat) (xs : List Nat) (a1 : Option Addr) (c1 : Nat) (ys : List Nat) (w : World) (La : Lim w.heap.size w (.slice a0 xs.length c0) xs) (h0 : xs.length ≤ 12) (Lb : Lim w.heap.size w (.slice a1 ys.length c1) ys) (h1 : ys.length ≤ 12) (hz : val ys ≠ 0) :
    Calls Try.prog 3 #[.slice a0 xs.length c0, .slice a1 ys.length c1] w fun e w' => e = .returned (.bool true) ∧ Below w.heap.size w w' := by
  have HZ := Lib.hid hz
  clear hz
  have HV0 := Lib.hid (val_pow La.ok h0)
  have d0 : decide (12 < (xs.length : Int)) = false := decide_eq_false (by omega)
  have HV1 := Lib.hid (val_pow Lb.ok h1)
  have d1 : decide (12 < (ys.length : Int)) = false := decide_eq_false (by omega)
  go_enter Try.func3, Try.ntmps3
  have HQ := Lib.hid (Nat.lt_of_le_of_lt (Nat.div_le_self (val xs) (val ys)) HV0.out)
  have HR := Lib.hid (Nat.lt_of_le_of_lt (Nat.mod_le (val xs) (val ys)) HV0.out)
  go_wp2_with fail
  refine (divide_any _ _ xs ys _ La Lb (by omega) (by omega) HZ.out).mono ?_
  rintro e W1 ⟨vq, vr, rfl, Lq, Lr, hb⟩
  replace La := La.next hb
  replace Lb := Lb.next hb
  have B := hb
  clear hb
  go_wp2_with fail
  refine (refDivide_any _ _ xs ys _ La Lb (by omega) (by omega) HZ.out).mono ?_
  rintro e W2 ⟨vx, vy, rfl, Lx, Ly, hb⟩
  replace La := La.next hb
  replace Lb := Lb.next hb
  replace Lq := Lq.next hb
  replace Lr := Lr.next hb
  replace B := B.trans (hb.mono B.size)
  clear hb
  go_wp2_with fail
  refine (awake2_any _).mono ?_
  rintro e W3 ⟨rfl, hb⟩
  replace La := La.next hb
  replace Lb := Lb.next hb
  replace Lq := Lq.next hb
  replace Lr := Lr.next hb
  replace Lx := Lx.next hb
  replace Ly := Ly.next hb
  replace B := B.trans (hb.mono B.size)
  clear hb
  go_wp2_with fail
  refine (mul_any _ _ xs ys _ La Lb (by omega) (by omega)).mono ?_
  rintro e W4 ⟨vm, rfl, Lm, hb⟩
  replace La := La.next hb
  replace Lb := Lb.next hb
  replace Lq := Lq.next hb
  replace Lr := Lr.next hb
  replace Lx := Lx.next hb
  replace Ly := Ly.next hb
  replace B := B.trans (hb.mono B.size)
  clear hb
  go_wp2_with fail
  refine (refMul_any _ _ xs ys _ La Lb (by omega) (by omega)).mono ?_
  rintro e W5 ⟨vn, rfl, Ln, hb⟩
  replace La := La.next hb
  replace Lb := Lb.next hb
  replace Lq := Lq.next hb
  replace Lr := Lr.next hb
  replace Lx := Lx.next hb
  replace Ly := Ly.next hb
  replace Lm := Lm.next hb
  replace B := B.trans (hb.mono B.size)
  clear hb
  go_wp2_with fail
  refine (equal_any _ _ _ _ Lm Ln (len_up (mul_pow HV0.out HV1.out) (by omega))).mono ?_
  rintro e W6 ⟨rfl, hb⟩
  replace La := La.next hb
  replace Lb := Lb.next hb
  replace Lq := Lq.next hb
  replace Lr := Lr.next hb
  replace Lx := Lx.next hb
  replace Ly := Ly.next hb
  replace Lm := Lm.next hb
  replace Ln := Ln.next hb
  replace B := B.trans (hb.mono B.size)
  clear hb
  go_wp2_with fail
  refine (equal_any _ _ _ _ Lq Lx (len_up HQ.out (by omega))).mono ?_
  rintro e W7 ⟨rfl, hb⟩
  replace La := La.next hb
  replace Lb := Lb.next hb
  replace Lq := Lq.next hb
  replace Lr := Lr.next hb
  replace Lx := Lx.next hb
  replace Ly := Ly.next hb
  replace Lm := Lm.next hb
  replace Ln := Ln.next hb
  replace B := B.trans (hb.mono B.size)
  clear hb
  go_wp2_with fail
  refine (equal_any _ _ _ _ Lr Ly (len_up HR.out (by omega))).mono ?_
  rintro e W8 ⟨rfl, hb⟩
  replace La := La.next hb
  replace Lb := Lb.next hb
  replace Lq := Lq.next hb
  replace Lr := Lr.next hb
  replace Lx := Lx.next hb
  replace Ly := Ly.next hb
  replace Lm := Lm.next hb
  replace Ln := Ln.next hb
  replace B := B.trans (hb.mono B.size)
  clear hb
  go_wp2
  go_ret
  exact ⟨rfl, B⟩

theorem longTells_any (a0 : Option Addr) (n0 c0 : Nat) (a1 : Option Addr) (n1 c1 : Nat) (w : World) (w0 : ∃ xs : List Nat, xs.length = n0 ∧ Lim w.heap.size w (.slice a0 n0 c0) xs) (w1 : ∃ xs : List Nat, xs.length = n1 ∧ Lim w.heap.size w (.slice a1 n1 c1) xs) :
    Calls Try.prog 3 #[.slice a0 n0 c0, .slice a1 n1 c1] w fun e w' => e = .returned (.bool true) ∧ Below w.heap.size w w' := by
  by_cases h0 : n0 ≤ 12
  rotate_left
  · exact longTells_big0 a0 n0 c0 a1 n1 c1 w h0
  by_cases h1 : n1 ≤ 12
  rotate_left
  · exact longTells_big1 a0 n0 c0 a1 n1 c1 w h0 h1
  obtain ⟨x0, e0, L0⟩ := w0
  subst e0
  obtain ⟨x1, e1, L1⟩ := w1
  subst e1
  by_cases hz : val x1 = 0
  · exact longTells_zero _ _ _ _ _ _ w L0 h0 L1 h1 hz
  · exact longTells_some _ _ _ _ _ _ w L0 h0 L1 h1 hz

end Go.Proofs.Ytgcglhahhphakaa
