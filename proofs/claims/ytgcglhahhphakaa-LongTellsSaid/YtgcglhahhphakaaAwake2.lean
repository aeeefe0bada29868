/- The document's examples of layer 2 hold (lodgelaw02.awake answers true), and memory below is left as it was; lodgeref01.Same; bounds. No condition but those named. -/
import Derived.Test.YtgcglhahhphakaaDivideM
import Derived.Test.YtgcglhahhphakaaMulW
import Derived.Test.YtgcglhahhphakaaRefB
import Derived.Test.YtgcglhahhphakaaLaw
namespace Go.Proofs.Ytgcglhahhphakaa
open Go.RowKit Go.Shelf Num
set_option linter.unusedVariables false

theorem eg_mul : limbs (val [top, top] * val [top, top]) = [1, 0, 18446744073709551614, top] := limbs_of _ _ (by decide +kernel) (by decide +kernel) (by decide +kernel)
theorem eg_quo : limbs (val [1, 0, 18446744073709551614, top] / val [top, top]) = [top, top] := limbs_of _ _ (by decide +kernel) (by decide +kernel) (by decide +kernel)
theorem eg_rem : limbs (val [1, 0, 18446744073709551614, top] % val [top, top]) = [] := limbs_of _ _ (by decide +kernel) (by decide +kernel) (by decide +kernel)
theorem eg_not : val [top, top] ≠ 0 := by decide +kernel
theorem eg_zero : val [0] = 0 := by decide +kernel
theorem eg_two : val [2] ≠ 0 := by decide +kernel
theorem eg_seven : limbs (val [7] / val [2]) = [3] := limbs_of _ _ (by decide +kernel) (by decide +kernel) (by decide +kernel)
theorem eg_left : limbs (val [7] % val [2]) = [1] := limbs_of _ _ (by decide +kernel) (by decide +kernel) (by decide +kernel)

set_option maxRecDepth 100000 in
set_option maxHeartbeats 4000000 in
theorem awake2_any (w : World) : Calls Try.prog 8 #[] w fun e W' => e = .returned (.bool true) ∧ Below w.heap.size w W' := by
  go_enter Try.func8, Try.ntmps8
  go_wp2_with fail
  refine (mul_any _ _ [top, top] [top, top] _ ((lim_lit2 w top top top_ok top_ok).alloc _) (lim_lit2' w _ top top top_ok top_ok) (by simp) (by simp)).mono ?_
  rintro e W1 ⟨va, rfl, La, hb⟩
  rw [eg_mul] at La
  have B1 : Below w.heap.size w W1 := (((Below.refl _ w).alloc (Nat.le_refl _) _).alloc (by simp) _).trans (hb.mono (by simp; omega))
  clear hb
  go_wp2_with fail
  refine (divide_any _ _ _ [top, top] _ (La.alloc _) (lim_lit2 W1 top top top_ok top_ok) (by simp) (by simp) eg_not).mono ?_
  rintro e W2 ⟨vq, vr, rfl, Lq, Lr, hb⟩
  rw [eg_quo] at Lq
  rw [eg_rem] at Lr
  replace La := (La.alloc _).next hb
  have B2 : Below w.heap.size w W2 := (B1.alloc B1.size _).trans (hb.mono (by have := B1.size; simp; omega))
  clear hb B1
  go_wp2_with fail
  refine (divide_zero _ _ _ [0] _ (La.alloc _) (lim_lit1 W2 0 (small_ok (by omega))) (by simp) (by simp) eg_zero).mono ?_
  rintro e W3 ⟨rfl, hb⟩
  replace La := (La.alloc _).next hb
  replace Lq := (Lq.alloc _).next hb
  replace Lr := (Lr.alloc _).next hb
  have B3 : Below w.heap.size w W3 := (B2.alloc B2.size _).trans (hb.mono (by have := B2.size; simp; omega))
  clear hb B2
  go_wp2_with fail
  refine (divide_any _ _ [7] [2] _ ((lim_lit1 W3 7 (small_ok (by omega))).alloc _) (lim_lit1' W3 _ 2 (small_ok (by omega))) (by simp) (by simp) eg_two).mono ?_
  rintro e W4 ⟨vx, vy, rfl, Lx, Ly, hb⟩
  rw [eg_seven] at Lx
  rw [eg_left] at Ly
  replace La := ((La.alloc _).alloc _).next hb
  replace Lq := ((Lq.alloc _).alloc _).next hb
  replace Lr := ((Lr.alloc _).alloc _).next hb
  have B4 : Below w.heap.size w W4 := ((B3.alloc B3.size _).alloc (by have := B3.size; simp; omega) _).trans (hb.mono (by have := B3.size; simp; omega))
  clear hb B3
  obtain ⟨b1, o1, c1, rfl, hc1, _, cell1⟩ := La.at_ (by simp)
  obtain ⟨b2, o2, c2, rfl, hc2, _, cell2⟩ := Lq.at_ (by simp)
  obtain ⟨A3, c3, rfl, _⟩ := Lr
  obtain ⟨b4, o4, c4, rfl, hc4, _, cell4⟩ := Lx.at_ (by simp)
  obtain ⟨b5, o5, c5, rfl, hc5, _, cell5⟩ := Ly.at_ (by simp)
  have k1 : W4.cell? ⟨b1, o1, none⟩ = some (.int .u64 1) := cell1 0 (by simp)
  have k2 : W4.cell? ⟨b1, o1 + 2, none⟩ = some (.int .u64 18446744073709551614) := cell1 2 (by simp)
  have k3 : W4.cell? ⟨b2, o2 + 1, none⟩ = some (.int .u64 18446744073709551615) := cell2 1 (by simp)
  have k4 : W4.cell? ⟨b4, o4, none⟩ = some (.int .u64 3) := cell4 0 (by simp)
  have k5 : W4.cell? ⟨b5, o5, none⟩ = some (.int .u64 1) := cell5 0 (by simp)
  clear cell1 cell2 cell4 cell5 hc1 hc2 hc4 hc5
  go_wp2
  go_ret
  exact ⟨rfl, B4⟩

set_option maxHeartbeats 1000000 in
theorem same_any (v u : Value) (xs ys : List Nat) (w : World) (hLa : Lim w.heap.size w v xs) (hLb : Lim w.heap.size w u ys) (hlx : xs.length ≤ 1099511627776) (hly : ys.length ≤ 1099511627776) (he : val xs = val ys) :
    Calls Try.prog 16 #[v, u] w fun e W' => e = .returned (.bool true) ∧ Below w.heap.size w W' := by
  have hc := refCompare_any v u xs ys w hLa hLb hlx hly
  rw [he, cmpN_eq] at hc
  have HC := Lib.hid hc
  clear hc
  obtain ⟨A, ca, rfl, _⟩ := id hLa
  obtain ⟨B, cb, rfl, _⟩ := id hLb
  go_enter Try.func16, Try.ntmps16
  go_wp2_with fail
  refine HC.out.mono ?_
  rintro e W1 ⟨rfl, rfl⟩
  go_wp2
  go_ret
  exact ⟨rfl, Below.refl _ _⟩

theorem val_pow {xs : List Nat} {k : Nat} (ho : Ok xs) (h : xs.length ≤ k) : val xs < M ^ k := Nat.lt_of_lt_of_le (val_lt ho) (pow_mono h)
theorem mul_pow {a b p q : Nat} (ha : a < M ^ p) (hb : b < M ^ q) : a * b < M ^ (p + q) := by
  rw [Nat.pow_add]
  exact Nat.mul_lt_mul'' ha hb
theorem add_pow {a b p : Nat} (ha : a < M ^ p) (hb : b < M ^ p) : a + b < M ^ (p + 1) := by
  rw [Nat.pow_succ]
  have : M ^ p * 2 ≤ M ^ p * M := Nat.mul_le_mul_left _ (by unfold M; omega)
  omega
theorem pow_up {a p q : Nat} (ha : a < M ^ p) (h : p ≤ q) : a < M ^ q := Nat.lt_of_lt_of_le ha (pow_mono h)
theorem len_up {n p k : Nat} (h : n < M ^ p) (hp : p ≤ k) : (limbs n).length ≤ k := Nat.le_trans (limbs_len h) hp

end Go.Proofs.Ytgcglhahhphakaa
