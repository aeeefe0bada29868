/- lodgelaw02.LongLimbs answers true, whatever lists of limbs come in, and leaves memory below as it was. No condition. -/
import Derived.Test.YtgcglhahhphakaaAwake2
namespace Go.Proofs.Ytgcglhahhphakaa
open Go.RowKit Go.Shelf Num
set_option linter.unusedVariables false

theorem val_up : val [0, 1] = M := by decide +kernel
theorem up_not : val [0, 1] ≠ 0 := by decide +kernel
theorem limbs_up {n : Nat} (h : n ≠ 0) : limbs (n * M) = 0 :: limbs n := by
  have h1 : n * M ≠ 0 := by
    intro h2
    rcases Nat.mul_eq_zero.1 h2 with h3 | h3
    · exact h h3
    · have := M_pos
      omega
  rw [limbs_pos h1, Nat.mul_mod_left, Nat.mul_div_cancel _ M_pos]
theorem val_single (x : Nat) : val [x] = x := by simp [val]

theorem Lim.none_left {n₀ : Nat} {w : World} {b off n cap x : Nat} {xs : List Nat} (h : Lim n₀ w (.slice (some ⟨b, off, none⟩) n cap) (x :: xs)) (hx : xs = []) : Lim n₀ w (.slice (some ⟨b, off, none⟩) xs.length 0) xs := by
  subst hx
  exact ⟨_, _, rfl, Nat.le_refl _, (fun h => by cases h), ok_nil, fun hp => by simp at hp⟩

/-- A list without its first limb. -/
theorem Lim.tail {n₀ : Nat} {w : World} {b off n cap x : Nat} {xs : List Nat} (h : Lim n₀ w (.slice (some ⟨b, off, none⟩) n cap) (x :: xs)) : Lim n₀ w (.slice (some ⟨b, off + 1, none⟩) xs.length (cap - 1)) xs := by
  have ho := h.ok
  have hn := h.len
  obtain ⟨A, c, hv, hc, hz, _, hr⟩ := h
  injection hv with h1 h2 h3
  subst h1 h3
  rw [List.length_cons] at hc hr
  refine ⟨_, _, rfl, by omega, (fun h => by cases h), fun y hy => ho y (List.mem_cons_of_mem _ hy), fun hp => ?_⟩
  obtain ⟨b', off', hA, hb, hcell⟩ := hr (by omega)
  injection hA with hA
  injection hA with hA1 hA2
  subst hA1 hA2
  refine ⟨b, off + 1, rfl, hb, fun j hj => ?_⟩
  have := hcell (j + 1) (by omega)
  rw [show off + (j + 1) = off + 1 + j by omega] at this
  rw [this]
  simp [lat]

set_option maxRecDepth 100000 in
set_option maxHeartbeats 8000000 in
theorem longLimbs_big0 (a0 : Option Addr) (n0 c0 : Nat) (w : World)  (h0 : ¬ n0 ≤ 60) :
    Calls Try.prog 7 #[.slice a0 n0 c0] w fun e w' => e = .returned (.bool true) ∧ Below w.heap.size w w' := by
  have d0 : decide (60 < (n0 : Int)) = true := decide_eq_true (by omega)
  go_enter Try.func7, Try.ntmps7
  go_wp2_with fail
  refine (awake2_any _).mono ?_
  rintro e W1 ⟨rfl, hB⟩
  go_wp2
  go_ret
  exact ⟨rfl, hB⟩

set_option maxRecDepth 100000 in
set_option maxHeartbeats 8000000 in
theorem longLimbs_zero (a0 : Option Addr) (c0 : Nat) (xs : List Nat) (w : World) (La : Lim w.heap.size w (.slice a0 xs.length c0) xs) (h0 : xs.length ≤ 60) (hz : val xs = 0) :
    Calls Try.prog 7 #[.slice a0 xs.length c0] w fun e w' => e = .returned (.bool true) ∧ Below w.heap.size w w' := by
  have HZ := Lib.hid hz
  clear hz
  have HV0 := Lib.hid (val_pow La.ok h0)
  have d0 : decide (60 < (xs.length : Int)) = false := decide_eq_false (by omega)
  go_enter Try.func7, Try.ntmps7
  go_wp2_with fail
  refine (refTrim_any _ xs _ (La.alloc _) (by omega)).mono ?_
  rintro e W1 ⟨vt, rfl, Lt, hb⟩
  replace La := (La.alloc _).next hb
  have B := ((Below.refl _ w).alloc (Nat.le_refl _) _).trans (hb.mono (by simp))
  have Lu := (lim_lit2 w 0 1 (small_ok (by omega)) (small_ok (by omega))).next hb
  clear hb
  rw [HZ.out, limbs_zero] at Lt
  go_wp2_with fail
  refine (mul_any _ _ xs [0, 1] _ La Lu (by omega) (by simp)).mono ?_
  rintro e W2 ⟨vm, rfl, Lm, hb⟩
  replace La := La.next hb
  replace Lt := Lt.next hb
  replace Lu := Lu.next hb
  replace B := B.trans (hb.mono B.size)
  clear hb
  rw [HZ.out, Nat.zero_mul, limbs_zero] at Lm
  go_wp2_with fail
  refine (divide_any _ _ xs [0, 1] _ La Lu (by omega) (by simp) up_not).mono ?_
  rintro e W3 ⟨vq, vr, rfl, Lq, Lr, hb⟩
  replace La := La.next hb
  replace Lt := Lt.next hb
  replace Lu := Lu.next hb
  replace Lm := Lm.next hb
  replace B := B.trans (hb.mono B.size)
  clear hb
  rw [HZ.out, Nat.zero_div, limbs_zero] at Lq
  rw [HZ.out, Nat.zero_mod, limbs_zero] at Lr
  obtain ⟨At, ct, rfl, _⟩ := id Lt
  obtain ⟨Am, cm, rfl, _⟩ := id Lm
  obtain ⟨Aq, cq, rfl, _⟩ := id Lq
  obtain ⟨Ar, cr, rfl, _⟩ := id Lr
  go_wp2_with fail
  refine (awake2_any _).mono ?_
  rintro e W4 ⟨rfl, hb⟩
  replace La := La.next hb
  replace Lt := Lt.next hb
  replace Lu := Lu.next hb
  replace Lm := Lm.next hb
  replace Lq := Lq.next hb
  replace Lr := Lr.next hb
  replace B := B.trans (hb.mono B.size)
  clear hb
  go_wp2
  go_ret
  exact ⟨rfl, B⟩

set_option maxRecDepth 100000 in
set_option maxHeartbeats 8000000 in
theorem longLimbs_some (a0 : Option Addr) (c0 : Nat) (xs : List Nat) (w : World) (La : Lim w.heap.size w (.slice a0 xs.length c0) xs) (h0 : xs.length ≤ 60) (hz : val xs ≠ 0) :
    Calls Try.prog 7 #[.slice a0 xs.length c0] w fun e w' => e = .returned (.bool true) ∧ Below w.heap.size w w' := by
  have HU := Lib.hid (limbs_up hz)
  have HP := Lib.hid (limbs_pos hz)
  have HL := Lib.hid (limbs_len_val La.ok)
  clear hz
  have HV0 := Lib.hid (val_pow La.ok h0)
  have d0 : decide (60 < (xs.length : Int)) = false := decide_eq_false (by omega)
  go_enter Try.func7, Try.ntmps7
  go_wp2_with fail
  refine (refTrim_any _ xs _ (La.alloc _) (by omega)).mono ?_
  rintro e W1 ⟨vt, rfl, Lt, hb⟩
  replace La := (La.alloc _).next hb
  have B := ((Below.refl _ w).alloc (Nat.le_refl _) _).trans (hb.mono (by simp))
  have Lu := (lim_lit2 w 0 1 (small_ok (by omega)) (small_ok (by omega))).next hb
  clear hb
  have hl := HL.out
  rw [HP.out] at Lt hl
  rw [List.length_cons] at hl
  go_wp2_with fail
  refine (mul_any _ _ xs [0, 1] _ La Lu (by omega) (by simp)).mono ?_
  rintro e W2 ⟨vm, rfl, Lm, hb⟩
  replace La := La.next hb
  replace Lt := Lt.next hb
  replace Lu := Lu.next hb
  replace B := B.trans (hb.mono B.size)
  clear hb
  rw [val_up, HU.out, HP.out] at Lm
  go_wp2_with fail
  refine (divide_any _ _ xs [0, 1] _ La Lu (by omega) (by simp) up_not).mono ?_
  rintro e W3 ⟨vq, vr, rfl, Lq, Lr, hb⟩
  replace La := La.next hb
  replace Lt := Lt.next hb
  replace Lu := Lu.next hb
  replace Lm := Lm.next hb
  replace B := B.trans (hb.mono B.size)
  clear hb
  rw [val_up] at Lq Lr
  obtain ⟨bt, ot, ct, rfl, hct, _, _⟩ := Lt.at_ (by simp)
  rw [List.length_cons] at hct Lt ⊢
  have hd : (((limbs (val xs / M)).length : Int) + 1 == 0) = false := by simp; omega
  go_wp2_with fail
  refine (awake2_any _).mono ?_
  rintro e W4 ⟨rfl, hb⟩
  replace La := La.next hb
  replace Lt := Lt.next hb
  replace Lu := Lu.next hb
  replace Lm := Lm.next hb
  replace Lq := Lq.next hb
  replace Lr := Lr.next hb
  replace B := B.trans (hb.mono B.size)
  clear hb
  have ow0 : (W4.alloc (.cells #[.int .u64 0] 31)).ownsRow W4.heap.size 31 1 (.slice (some ⟨W4.heap.size, 0, none⟩) 1 1) 1 [.int .u64 0] := World.ownsRow_lit W4 #[.int .u64 0] 1 (Nat.le_refl _) (by unfold maxLen; omega) (by simp)
  go_wp2_with (at_builtin; refine append_lim _ (by rfl) (.tmp 51) (.tmp 52) rfl W4.heap.size (.slice (some ⟨W4.heap.size, 0, none⟩) 1 1) 1 [.int .u64 0] rfl ow0 _ (some ⟨bt, ot, none⟩) ((limbs (val xs / M)).length + 1) ct (val xs % M :: limbs (val xs / M)) rfl (Lt.alloc _) (by omega) (by simp) ?_; intro v1 w1 own1 grow1)
  have hb : Below W4.heap.size W4 w1 := ((Below.refl _ _).alloc (Nat.le_refl _) _).grown grow1 (by simp) (fun k e => by simp [Value.ownBlock] at e; omega)
  have own2 : w1.ownsRow W4.heap.size 31 1 v1 (1 + (val xs % M :: limbs (val xs / M)).length) (Us (0 :: val xs % M :: limbs (val xs / M))) := own1
  have L1 := Lim.of_own own2 (fun y hy => by rcases List.mem_cons.1 hy with rfl | hy; exact M_pos; exact Lt.ok y hy) (Nat.le_refl _)
  clear own1 own2 grow1 ow0
  replace La := La.next hb
  replace Lt := Lt.next hb
  replace Lu := Lu.next hb
  replace Lm := Lm.next hb
  replace Lq := Lq.next hb
  replace Lr := Lr.next hb
  replace B := B.trans (hb.mono B.size)
  clear hb
  go_wp2_with fail
  refine (equal_any _ _ _ _ Lm L1 (by simp; omega)).mono ?_
  rintro e W5 ⟨rfl, hb⟩
  replace La := La.next hb
  replace Lt := Lt.next hb
  replace Lu := Lu.next hb
  replace Lm := Lm.next hb
  replace Lq := Lq.next hb
  replace Lr := Lr.next hb
  replace L1 := L1.next hb
  replace B := B.trans (hb.mono B.size)
  clear hb
  have j1 : (1 : Int) ≤ ((limbs (val xs / M)).length : Int) + 1 := by omega
  have j2 : 1 ≤ (limbs (val xs / M)).length + 1 := by omega
  have j3 : (limbs (val xs / M)).length + 1 ≤ ct := by omega
  have j4 : ((limbs (val xs / M)).length : Int) + 1 ≤ (ct : Int) := by omega
  have j5 : 1 ≤ ct := by omega
  have j6 : (1 : Int) ≤ (ct : Int) := by omega
  by_cases hc1 : ct - 1 = 0
  · have hnil : limbs (val xs / M) = [] := List.eq_nil_of_length_eq_zero (by omega)
    have HN := Lib.hid hnil
    clear hnil
    go_wp2_with fail
    refine (refTrim_any _ _ _ (Lt.none_left HN.out) (by omega)).mono ?_
    rintro e W6 ⟨v2, rfl, L2, hb⟩
    replace La := La.next hb
    replace Lt := Lt.next hb
    replace Lu := Lu.next hb
    replace Lq := Lq.next hb
    replace Lr := Lr.next hb
    replace B := B.trans (hb.mono B.size)
    clear hb
    rw [val_limbs] at L2
    go_wp2_with fail
    refine (equal_any _ _ _ _ Lq L2 (by omega)).mono ?_
    rintro e W7 ⟨rfl, hb⟩
    replace La := La.next hb
    replace Lt := Lt.next hb
    replace Lu := Lu.next hb
    replace Lq := Lq.next hb
    replace Lr := Lr.next hb
    replace L2 := L2.next hb
    replace B := B.trans (hb.mono B.size)
    clear hb
    go_wp2_with fail
    refine (refTrim_any _ _ _ (Lt.take 1 (by simp)) (by simp)).mono ?_
    rintro e W8 ⟨v3, rfl, L3, hb⟩
    replace La := La.next hb
    replace Lt := Lt.next hb
    replace Lu := Lu.next hb
    replace Lr := Lr.next hb
    replace B := B.trans (hb.mono B.size)
    clear hb
    rw [List.take_succ_cons, List.take_zero, val_single] at L3
    go_wp2_with fail
    refine (equal_any _ _ _ _ Lr L3 (by have := limbs_len (n := val xs % M) (k := 1) (by rw [Nat.pow_one]; exact Nat.mod_lt _ M_pos); omega)).mono ?_
    rintro e W9 ⟨rfl, hb⟩
    replace La := La.next hb
    replace Lt := Lt.next hb
    replace Lu := Lu.next hb
    replace Lr := Lr.next hb
    replace L3 := L3.next hb
    replace B := B.trans (hb.mono B.size)
    clear hb
    go_wp2
    go_ret
    exact ⟨rfl, B⟩
  · have hc2 : decide (ct - 1 = 0) = false := decide_eq_false hc1
    have hc3 : ((ct - 1 : Nat) == 0) = false := by simpa using hc1
    go_wp2_with fail
    refine (refTrim_any _ _ _ Lt.tail (by omega)).mono ?_
    rintro e W6 ⟨v2, rfl, L2, hb⟩
    replace La := La.next hb
    replace Lt := Lt.next hb
    replace Lu := Lu.next hb
    replace Lq := Lq.next hb
    replace Lr := Lr.next hb
    replace B := B.trans (hb.mono B.size)
    clear hb
    rw [val_limbs] at L2
    go_wp2_with fail
    refine (equal_any _ _ _ _ Lq L2 (by omega)).mono ?_
    rintro e W7 ⟨rfl, hb⟩
    replace La := La.next hb
    replace Lt := Lt.next hb
    replace Lu := Lu.next hb
    replace Lq := Lq.next hb
    replace Lr := Lr.next hb
    replace L2 := L2.next hb
    replace B := B.trans (hb.mono B.size)
    clear hb
    go_wp2_with fail
    refine (refTrim_any _ _ _ (Lt.take 1 (by simp)) (by simp)).mono ?_
    rintro e W8 ⟨v3, rfl, L3, hb⟩
    replace La := La.next hb
    replace Lt := Lt.next hb
    replace Lu := Lu.next hb
    replace Lr := Lr.next hb
    replace B := B.trans (hb.mono B.size)
    clear hb
    rw [List.take_succ_cons, List.take_zero, val_single] at L3
    go_wp2_with fail
    refine (equal_any _ _ _ _ Lr L3 (by have := limbs_len (n := val xs % M) (k := 1) (by rw [Nat.pow_one]; exact Nat.mod_lt _ M_pos); omega)).mono ?_
    rintro e W9 ⟨rfl, hb⟩
    replace La := La.next hb
    replace Lt := Lt.next hb
    replace Lu := Lu.next hb
    replace Lr := Lr.next hb
    replace L3 := L3.next hb
    replace B := B.trans (hb.mono B.size)
    clear hb
    go_wp2
    go_ret
    exact ⟨rfl, B⟩

theorem longLimbs_any (a0 : Option Addr) (n0 c0 : Nat) (w : World) (w0 : ∃ xs : List Nat, xs.length = n0 ∧ Lim w.heap.size w (.slice a0 n0 c0) xs) :
    Calls Try.prog 7 #[.slice a0 n0 c0] w fun e w' => e = .returned (.bool true) ∧ Below w.heap.size w w' := by
  by_cases h0 : n0 ≤ 60
  rotate_left
  · exact longLimbs_big0 a0 n0 c0 w h0
  obtain ⟨x0, e0, L0⟩ := w0
  subst e0
  by_cases hz : val x0 = 0
  · exact longLimbs_zero _ _ _ w L0 h0 hz
  · exact longLimbs_some _ _ _ w L0 h0 hz

end Go.Proofs.Ytgcglhahhphakaa
