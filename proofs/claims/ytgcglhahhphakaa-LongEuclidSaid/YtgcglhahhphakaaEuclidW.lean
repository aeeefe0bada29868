/- lodgelaw02.LongEuclid answers true, whatever lists of limbs come in, and leaves memory below as it was. No condition. -/
import Derived.Test.YtgcglhahhphakaaAwake2
namespace Go.Proofs.Ytgcglhahhphakaa
open Go.RowKit Go.Shelf Num
set_option linter.unusedVariables false

set_option maxRecDepth 100000 in
set_option maxHeartbeats 8000000 in
theorem longEuclid_big0 (a0 : Option Addr) (n0 c0 : Nat) (a1 : Option Addr) (n1 c1 : Nat) (w : World)  (h0 : ¬ n0 ≤ 60) :
    Calls Try.prog 4 #[.slice a0 n0 c0, .slice a1 n1 c1] w fun e w' => e = .returned (.bool true) ∧ Below w.heap.size w w' := by
  have d0 : decide (60 < (n0 : Int)) = true := decide_eq_true (by omega)
  go_enter Try.func4, Try.ntmps4
  go_wp2_with fail
  refine (awake2_any _).mono ?_
  rintro e W1 ⟨rfl, hB⟩
  go_wp2
  go_ret
  exact ⟨rfl, hB⟩

set_option maxRecDepth 100000 in
set_option maxHeartbeats 8000000 in
theorem longEuclid_big1 (a0 : Option Addr) (n0 c0 : Nat) (a1 : Option Addr) (n1 c1 : Nat) (w : World) (h0 : n0 ≤ 60) (h1 : ¬ n1 ≤ 60) :
    Calls Try.prog 4 #[.slice a0 n0 c0, .slice a1 n1 c1] w fun e w' => e = .returned (.bool true) ∧ Below w.heap.size w w' := by
  have d0 : decide (60 < (n0 : Int)) = false := decide_eq_false (by omega)
  have d1 : decide (60 < (n1 : Int)) = true := decide_eq_true (by omega)
  go_enter Try.func4, Try.ntmps4
  go_wp2_with fail
  refine (awake2_any _).mono ?_
  rintro e W1 ⟨rfl, hB⟩
  go_wp2
  go_ret
  exact ⟨rfl, hB⟩

set_option maxRecDepth 100000 in
set_option maxHeartbeats 8000000 in
theorem longEuclid_zero (a0 : Option Addr) (c0 : Nat) (xs : List Nat) (a1 : Option Addr) (c1 : Nat) (ys : List Nat) (w : World) (La : Lim w.heap.size w (.slice a0 xs.length c0) xs) (h0 : xs.length ≤ 60) (Lb : Lim w.heap.size w (.slice a1 ys.length c1) ys) (h1 : ys.length ≤ 60) (hz : val ys = 0) :
    Calls Try.prog 4 #[.slice a0 xs.length c0, .slice a1 ys.length c1] w fun e w' => e = .returned (.bool true) ∧ Below w.heap.size w w' := by
  have HZ := Lib.hid hz
  clear hz
  have HV0 := Lib.hid (val_pow La.ok h0)
  have d0 : decide (60 < (xs.length : Int)) = false := decide_eq_false (by omega)
  have HV1 := Lib.hid (val_pow Lb.ok h1)
  have d1 : decide (60 < (ys.length : Int)) = false := decide_eq_false (by omega)
  go_enter Try.func4, Try.ntmps4
  go_wp2_with fail
  refine (divide_zero _ _ xs ys _ La Lb (by omega) (by omega) HZ.out).mono ?_
  rintro e W1 ⟨rfl, hb⟩
  replace La := La.next hb
  replace Lb := Lb.next hb
  have B := hb
  clear hb
  go_wp2_with fail
  refine (awake2_any _).mono ?_
  rintro e W2 ⟨rfl, hb⟩
  replace La := La.next hb
  replace Lb := Lb.next hb
  replace B := B.trans (hb.mono B.size)
  clear hb
  have hq := refBits_any _ ys _ Lb (by omega)
  rw [HZ.out, nbits_zero] at hq
  have HQ := Lib.hid hq
  clear hq
  go_wp2_with fail
  refine (HQ.out).mono ?_
  rintro e W3 ⟨rfl, hb⟩
  replace La := La.next hb
  replace Lb := Lb.next hb
  replace B := B.trans (hb.mono B.size)
  clear hb
  go_wp2
  go_ret
  exact ⟨rfl, B⟩

set_option maxRecDepth 100000 in
set_option maxHeartbeats 8000000 in
theorem longEuclid_some (a0 : Option Addr) (c0 : Nat) (xs : List Nat) (a1 : Option Addr) (c1 : Nat) (ys : List Nat) (w : World) (La : Lim w.heap.size w (.slice a0 xs.length c0) xs) (h0 : xs.length ≤ 60) (Lb : Lim w.heap.size w (.slice a1 ys.length c1) ys) (h1 : ys.length ≤ 60) (hz : val ys ≠ 0) :
    Calls Try.prog 4 #[.slice a0 xs.length c0, .slice a1 ys.length c1] w fun e w' => e = .returned (.bool true) ∧ Below w.heap.size w w' := by
  have HZ := Lib.hid hz
  have hpos : 0 < val ys := by omega
  have hlt := Nat.mod_lt (val xs) hpos
  have HC := Lib.hid (cmpN_lt hlt)
  have HD := Lib.hid (Nat.div_add_mod' (val xs) (val ys))
  clear hz hlt
  have HV0 := Lib.hid (val_pow La.ok h0)
  have d0 : decide (60 < (xs.length : Int)) = false := decide_eq_false (by omega)
  have HV1 := Lib.hid (val_pow Lb.ok h1)
  have d1 : decide (60 < (ys.length : Int)) = false := decide_eq_false (by omega)
  go_enter Try.func4, Try.ntmps4
  have HQ := Lib.hid (Nat.lt_of_le_of_lt (Nat.div_le_self (val xs) (val ys)) HV0.out)
  have HR := Lib.hid (Nat.lt_of_le_of_lt (Nat.mod_le (val xs) (val ys)) HV0.out)
  clear hpos
  go_wp2_with fail
  refine (divide_any _ _ xs ys _ La Lb (by omega) (by omega) HZ.out).mono ?_
  rintro e W1 ⟨vq, vr, rfl, Lq, Lr, hb⟩
  replace La := La.next hb
  replace Lb := Lb.next hb
  have B := hb
  clear hb
  go_wp2_with fail
  refine (awake2_any _).mono ?_
  rintro e W2 ⟨rfl, hb⟩
  replace La := La.next hb
  replace Lb := Lb.next hb
  replace Lq := Lq.next hb
  replace Lr := Lr.next hb
  replace B := B.trans (hb.mono B.size)
  clear hb
  have hq := refCompare_any _ _ _ ys _ Lr Lb (len_up HR.out (by omega)) (by omega)
  rw [val_limbs, HC.out] at hq
  have HK := Lib.hid hq
  clear hq
  go_wp2_with fail
  refine (HK.out).mono ?_
  rintro e W3 ⟨rfl, rfl⟩
  go_wp2_with fail
  refine (mul_any _ _ _ ys _ Lq Lb (len_up HQ.out (by omega)) (by omega)).mono ?_
  rintro e W4 ⟨vp, rfl, Lp, hb⟩
  replace La := La.next hb
  replace Lb := Lb.next hb
  replace Lq := Lq.next hb
  replace Lr := Lr.next hb
  replace B := B.trans (hb.mono B.size)
  clear hb
  rw [val_limbs] at Lp
  go_wp2_with fail
  refine (refAdd_any _ _ _ _ _ Lp Lr (len_up (mul_pow HQ.out HV1.out) (by omega)) (len_up HR.out (by omega))).mono ?_
  rintro e W5 ⟨vs, rfl, Ls, hb⟩
  replace La := La.next hb
  replace Lb := Lb.next hb
  replace Lq := Lq.next hb
  replace Lr := Lr.next hb
  replace Lp := Lp.next hb
  replace B := B.trans (hb.mono B.size)
  clear hb
  rw [val_limbs, val_limbs, HD.out] at Ls
  go_wp2_with fail
  refine (same_any _ _ _ xs _ Ls La (len_up HV0.out (by omega)) (by omega) (val_limbs _)).mono ?_
  rintro e W6 ⟨rfl, hb⟩
  replace La := La.next hb
  replace Lb := Lb.next hb
  replace Lq := Lq.next hb
  replace Lr := Lr.next hb
  replace Lp := Lp.next hb
  replace Ls := Ls.next hb
  replace B := B.trans (hb.mono B.size)
  clear hb
  go_wp2
  go_ret
  exact ⟨rfl, B⟩

theorem longEuclid_any (a0 : Option Addr) (n0 c0 : Nat) (a1 : Option Addr) (n1 c1 : Nat) (w : World) (w0 : ∃ xs : List Nat, xs.length = n0 ∧ Lim w.heap.size w (.slice a0 n0 c0) xs) (w1 : ∃ xs : List Nat, xs.length = n1 ∧ Lim w.heap.size w (.slice a1 n1 c1) xs) :
    Calls Try.prog 4 #[.slice a0 n0 c0, .slice a1 n1 c1] w fun e w' => e = .returned (.bool true) ∧ Below w.heap.size w w' := by
  by_cases h0 : n0 ≤ 60
  rotate_left
  · exact longEuclid_big0 a0 n0 c0 a1 n1 c1 w h0
  by_cases h1 : n1 ≤ 60
  rotate_left
  · exact longEuclid_big1 a0 n0 c0 a1 n1 c1 w h0 h1
  obtain ⟨x0, e0, L0⟩ := w0
  subst e0
  obtain ⟨x1, e1, L1⟩ := w1
  subst e1
  by_cases hz : val x1 = 0
  · exact longEuclid_zero _ _ _ _ _ _ w L0 h0 L1 h1 hz
  · exact longEuclid_some _ _ _ _ _ _ w L0 h0 L1 h1 hz

end Go.Proofs.Ytgcglhahhphakaa
