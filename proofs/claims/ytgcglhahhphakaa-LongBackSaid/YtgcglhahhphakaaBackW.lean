/- lodgelaw02.LongBack answers true, whatever lists of limbs come in, and leaves memory below as it was. No condition. -/
import Derived.Test.YtgcglhahhphakaaAwake2
namespace Go.Proofs.Ytgcglhahhphakaa
open Go.RowKit Go.Shelf Num
set_option linter.unusedVariables false

set_option maxRecDepth 100000 in
set_option maxHeartbeats 8000000 in
theorem longBack_big0 (a0 : Option Addr) (n0 c0 : Nat) (a1 : Option Addr) (n1 c1 : Nat) (a2 : Option Addr) (n2 c2 : Nat) (w : World)  (h0 : ¬ n0 ≤ 30) :
    Calls Try.prog 5 #[.slice a0 n0 c0, .slice a1 n1 c1, .slice a2 n2 c2] w fun e w' => e = .returned (.bool true) ∧ Below w.heap.size w w' := by
  have d0 : decide (30 < (n0 : Int)) = true := decide_eq_true (by omega)
  go_enter Try.func5, Try.ntmps5
  go_wp2_with fail
  refine (awake2_any _).mono ?_
  rintro e W1 ⟨rfl, hB⟩
  go_wp2
  go_ret
  exact ⟨rfl, hB⟩

set_option maxRecDepth 100000 in
set_option maxHeartbeats 8000000 in
theorem longBack_big1 (a0 : Option Addr) (n0 c0 : Nat) (a1 : Option Addr) (n1 c1 : Nat) (a2 : Option Addr) (n2 c2 : Nat) (w : World) (h0 : n0 ≤ 30) (h1 : ¬ n1 ≤ 30) :
    Calls Try.prog 5 #[.slice a0 n0 c0, .slice a1 n1 c1, .slice a2 n2 c2] w fun e w' => e = .returned (.bool true) ∧ Below w.heap.size w w' := by
  have d0 : decide (30 < (n0 : Int)) = false := decide_eq_false (by omega)
  have d1 : decide (30 < (n1 : Int)) = true := decide_eq_true (by omega)
  go_enter Try.func5, Try.ntmps5
  go_wp2_with fail
  refine (awake2_any _).mono ?_
  rintro e W1 ⟨rfl, hB⟩
  go_wp2
  go_ret
  exact ⟨rfl, hB⟩

set_option maxRecDepth 100000 in
set_option maxHeartbeats 8000000 in
theorem longBack_big2 (a0 : Option Addr) (n0 c0 : Nat) (a1 : Option Addr) (n1 c1 : Nat) (a2 : Option Addr) (n2 c2 : Nat) (w : World) (h0 : n0 ≤ 30) (h1 : n1 ≤ 30) (h2 : ¬ n2 ≤ 30) :
    Calls Try.prog 5 #[.slice a0 n0 c0, .slice a1 n1 c1, .slice a2 n2 c2] w fun e w' => e = .returned (.bool true) ∧ Below w.heap.size w w' := by
  have d0 : decide (30 < (n0 : Int)) = false := decide_eq_false (by omega)
  have d1 : decide (30 < (n1 : Int)) = false := decide_eq_false (by omega)
  have d2 : decide (30 < (n2 : Int)) = true := decide_eq_true (by omega)
  go_enter Try.func5, Try.ntmps5
  go_wp2_with fail
  refine (awake2_any _).mono ?_
  rintro e W1 ⟨rfl, hB⟩
  go_wp2
  go_ret
  exact ⟨rfl, hB⟩

set_option maxRecDepth 100000 in
set_option maxHeartbeats 8000000 in
theorem longBack_no (a0 : Option Addr) (c0 : Nat) (xs : List Nat) (a1 : Option Addr) (c1 : Nat) (ys : List Nat) (a2 : Option Addr) (c2 : Nat) (zs : List Nat) (w : World) (La : Lim w.heap.size w (.slice a0 xs.length c0) xs) (h0 : xs.length ≤ 30) (Lb : Lim w.heap.size w (.slice a1 ys.length c1) ys) (h1 : ys.length ≤ 30) (Lc : Lim w.heap.size w (.slice a2 zs.length c2) zs) (h2 : zs.length ≤ 30) (hz : val ys ≤ val zs) :
    Calls Try.prog 5 #[.slice a0 xs.length c0, .slice a1 ys.length c1, .slice a2 zs.length c2] w fun e w' => e = .returned (.bool true) ∧ Below w.heap.size w w' := by
  have hc0 : decide (0 ≤ cmpN (val zs) (val ys)) = true := by
    rcases Nat.lt_or_ge (val ys) (val zs) with h | h
    · rw [cmpN_gt h]; rfl
    · rw [show val zs = val ys by omega, cmpN_eq]; rfl
  have HV0 := Lib.hid (val_pow La.ok h0)
  have d0 : decide (30 < (xs.length : Int)) = false := decide_eq_false (by omega)
  have HV1 := Lib.hid (val_pow Lb.ok h1)
  have d1 : decide (30 < (ys.length : Int)) = false := decide_eq_false (by omega)
  have HV2 := Lib.hid (val_pow Lc.ok h2)
  have d2 : decide (30 < (zs.length : Int)) = false := decide_eq_false (by omega)
  go_enter Try.func5, Try.ntmps5
  go_wp2_with fail
  refine (refCompare_any _ _ zs ys _ Lc Lb (by omega) (by omega)).mono ?_
  rintro e W1 ⟨rfl, rfl⟩
  go_wp2_with fail
  refine (awake2_any _).mono ?_
  rintro e W2 ⟨rfl, hb⟩
  replace La := La.next hb
  replace Lb := Lb.next hb
  replace Lc := Lc.next hb
  have B := hb
  clear hb
  go_wp2
  go_ret
  exact ⟨rfl, B⟩

set_option maxRecDepth 100000 in
set_option maxHeartbeats 8000000 in
theorem longBack_yes (a0 : Option Addr) (c0 : Nat) (xs : List Nat) (a1 : Option Addr) (c1 : Nat) (ys : List Nat) (a2 : Option Addr) (c2 : Nat) (zs : List Nat) (w : World) (La : Lim w.heap.size w (.slice a0 xs.length c0) xs) (h0 : xs.length ≤ 30) (Lb : Lim w.heap.size w (.slice a1 ys.length c1) ys) (h1 : ys.length ≤ 30) (Lc : Lim w.heap.size w (.slice a2 zs.length c2) zs) (h2 : zs.length ≤ 30) (hz : val zs < val ys) :
    Calls Try.prog 5 #[.slice a0 xs.length c0, .slice a1 ys.length c1, .slice a2 zs.length c2] w fun e w' => e = .returned (.bool true) ∧ Below w.heap.size w w' := by
  have hc0 : decide (0 ≤ cmpN (val zs) (val ys)) = false := by rw [cmpN_lt hz]; rfl
  have hpos : 0 < val ys := by omega
  have HN := Lib.hid (show val ys ≠ 0 by omega)
  have HQ := Lib.hid (show (val xs * val ys + val zs) / val ys = val xs by rw [Nat.mul_comm, Nat.mul_add_div hpos, Nat.div_eq_of_lt hz]; exact Nat.add_zero _)
  have HR := Lib.hid (show (val xs * val ys + val zs) % val ys = val zs by rw [Nat.mul_comm, Nat.mul_add_mod, Nat.mod_eq_of_lt hz])
  clear hpos hz
  have HV0 := Lib.hid (val_pow La.ok h0)
  have d0 : decide (30 < (xs.length : Int)) = false := decide_eq_false (by omega)
  have HV1 := Lib.hid (val_pow Lb.ok h1)
  have d1 : decide (30 < (ys.length : Int)) = false := decide_eq_false (by omega)
  have HV2 := Lib.hid (val_pow Lc.ok h2)
  have d2 : decide (30 < (zs.length : Int)) = false := decide_eq_false (by omega)
  go_enter Try.func5, Try.ntmps5
  go_wp2_with fail
  refine (refCompare_any _ _ zs ys _ Lc Lb (by omega) (by omega)).mono ?_
  rintro e W1 ⟨rfl, rfl⟩
  go_wp2_with fail
  refine (mul_any _ _ xs ys _ La Lb (by omega) (by omega)).mono ?_
  rintro e W2 ⟨vm, rfl, Lm, hb⟩
  replace La := La.next hb
  replace Lb := Lb.next hb
  replace Lc := Lc.next hb
  have B := hb
  clear hb
  go_wp2_with fail
  refine (refAdd_any _ _ _ zs _ Lm Lc (len_up (mul_pow HV0.out HV1.out) (by omega)) (by omega)).mono ?_
  rintro e W3 ⟨vs, rfl, Ls, hb⟩
  replace La := La.next hb
  replace Lb := Lb.next hb
  replace Lc := Lc.next hb
  replace Lm := Lm.next hb
  replace B := B.trans (hb.mono B.size)
  clear hb
  rw [val_limbs] at Ls
  have hD := divide_any _ _ _ ys _ Ls Lb (len_up (add_pow (mul_pow HV0.out HV1.out) (pow_up HV2.out (by omega))) (by omega)) (by omega) HN.out
  rw [val_limbs, HQ.out, HR.out] at hD
  have HD := Lib.hid hD
  clear hD
  go_wp2_with fail
  refine (HD.out).mono ?_
  rintro e W4 ⟨vq, vr, rfl, Lq, Lr, hb⟩
  replace La := La.next hb
  replace Lb := Lb.next hb
  replace Lc := Lc.next hb
  replace Lm := Lm.next hb
  replace Ls := Ls.next hb
  replace B := B.trans (hb.mono B.size)
  clear hb
  go_wp2_with fail
  refine (awake2_any _).mono ?_
  rintro e W5 ⟨rfl, hb⟩
  replace La := La.next hb
  replace Lb := Lb.next hb
  replace Lc := Lc.next hb
  replace Lm := Lm.next hb
  replace Ls := Ls.next hb
  replace Lq := Lq.next hb
  replace Lr := Lr.next hb
  replace B := B.trans (hb.mono B.size)
  clear hb
  go_wp2_with fail
  refine (same_any _ _ _ xs _ Lq La (len_up HV0.out (by omega)) (by omega) (val_limbs _)).mono ?_
  rintro e W6 ⟨rfl, hb⟩
  replace La := La.next hb
  replace Lb := Lb.next hb
  replace Lc := Lc.next hb
  replace Lm := Lm.next hb
  replace Ls := Ls.next hb
  replace Lq := Lq.next hb
  replace Lr := Lr.next hb
  replace B := B.trans (hb.mono B.size)
  clear hb
  go_wp2_with fail
  refine (same_any _ _ _ zs _ Lr Lc (len_up HV2.out (by omega)) (by omega) (val_limbs _)).mono ?_
  rintro e W7 ⟨rfl, hb⟩
  replace La := La.next hb
  replace Lb := Lb.next hb
  replace Lc := Lc.next hb
  replace Lm := Lm.next hb
  replace Ls := Ls.next hb
  replace Lq := Lq.next hb
  replace Lr := Lr.next hb
  replace B := B.trans (hb.mono B.size)
  clear hb
  go_wp2
  go_ret
  exact ⟨rfl, B⟩

theorem longBack_any (a0 : Option Addr) (n0 c0 : Nat) (a1 : Option Addr) (n1 c1 : Nat) (a2 : Option Addr) (n2 c2 : Nat) (w : World) (w0 : ∃ xs : List Nat, xs.length = n0 ∧ Lim w.heap.size w (.slice a0 n0 c0) xs) (w1 : ∃ xs : List Nat, xs.length = n1 ∧ Lim w.heap.size w (.slice a1 n1 c1) xs) (w2 : ∃ xs : List Nat, xs.length = n2 ∧ Lim w.heap.size w (.slice a2 n2 c2) xs) :
    Calls Try.prog 5 #[.slice a0 n0 c0, .slice a1 n1 c1, .slice a2 n2 c2] w fun e w' => e = .returned (.bool true) ∧ Below w.heap.size w w' := by
  by_cases h0 : n0 ≤ 30
  rotate_left
  · exact longBack_big0 a0 n0 c0 a1 n1 c1 a2 n2 c2 w h0
  by_cases h1 : n1 ≤ 30
  rotate_left
  · exact longBack_big1 a0 n0 c0 a1 n1 c1 a2 n2 c2 w h0 h1
  by_cases h2 : n2 ≤ 30
  rotate_left
  · exact longBack_big2 a0 n0 c0 a1 n1 c1 a2 n2 c2 w h0 h1 h2
  obtain ⟨x0, e0, L0⟩ := w0
  subst e0
  obtain ⟨x1, e1, L1⟩ := w1
  subst e1
  obtain ⟨x2, e2, L2⟩ := w2
  subst e2
  rcases Nat.lt_or_ge (val x2) (val x1) with hz | hz
  · exact longBack_yes _ _ _ _ _ _ _ _ _ w L0 h0 L1 h1 L2 h2 hz
  · exact longBack_no _ _ _ _ _ _ _ _ _ w L0 h0 L1 h1 L2 h2 hz

end Go.Proofs.Ytgcglhahhphakaa
