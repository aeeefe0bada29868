/- lodgeref01.Same answers whether two lists are one number; bounds by powers of 2^64. Conditions: the slices read as limbs; lengths below 2^40. -/
import Derived.Test.YtmbdidompjgaaaaRefB
import Derived.Test.YtmbdidompjgaaaaLaw
namespace Go.Proofs.Ytmbdidompjgaaaa
open Go.RowKit Go.Shelf Num
set_option linter.unusedVariables false

set_option maxHeartbeats 1000000 in
theorem same_any (v u : Value) (xs ys : List Nat) (w : World) (hLa : Lim w.heap.size w v xs) (hLb : Lim w.heap.size w u ys) (hlx : xs.length ≤ 1099511627776) (hly : ys.length ≤ 1099511627776) (he : val xs = val ys) :
    Calls Try.prog 10 #[v, u] w fun e W' => e = .returned (.bool true) ∧ Below w.heap.size w W' := by
  have hc := refCompare_any v u xs ys w hLa hLb hlx hly
  rw [he, cmpN_eq] at hc
  have HC := Lib.hid hc
  clear hc
  obtain ⟨A, ca, rfl, _⟩ := id hLa
  obtain ⟨B, cb, rfl, _⟩ := id hLb
  go_enter Try.func10, Try.ntmps10
  go_wp2_with fail
  refine HC.out.mono ?_
  rintro e W1 ⟨rfl, rfl⟩
  go_wp2
  go_ret
  exact ⟨rfl, Below.refl _ _⟩

set_option maxHeartbeats 1000000 in
theorem same_is (v u : Value) (xs ys : List Nat) (w : World) (hLa : Lim w.heap.size w v xs) (hLb : Lim w.heap.size w u ys) (hlx : xs.length ≤ 1099511627776) (hly : ys.length ≤ 1099511627776) :
    Calls Try.prog 10 #[v, u] w fun e W' => e = .returned (.bool (decide (val xs = val ys))) ∧ w = W' := by
  have HC := Lib.hid (refCompare_any v u xs ys w hLa hLb hlx hly)
  have hq : (cmpN (val xs) (val ys) == 0) = decide (val xs = val ys) := by
    by_cases h : val xs = val ys
    · rw [h, cmpN_eq]; simp
    · have h2 : cmpN (val xs) (val ys) ≠ 0 := fun e => h (cmpN_zero e)
      simp [h, h2]
  have HQ := Lib.hid hq
  clear hq
  obtain ⟨A, ca, rfl, _⟩ := id hLa
  obtain ⟨B, cb, rfl, _⟩ := id hLb
  go_enter Try.func10, Try.ntmps10
  go_wp2_with fail
  refine HC.out.mono ?_
  rintro e W1 ⟨rfl, rfl⟩
  go_wp2
  go_ret
  exact ⟨congrArg (fun b => Ending.returned (.bool b)) HQ.out, rfl⟩

theorem val_pow {xs : List Nat} {k : Nat} (ho : Ok xs) (h : xs.length ≤ k) : val xs < M ^ k := Nat.lt_of_lt_of_le (val_lt ho) (pow_mono h)
theorem mul_pow {a b p q : Nat} (ha : a < M ^ p) (hb : b < M ^ q) : a * b < M ^ (p + q) := by
  rw [Nat.pow_add]
  exact Nat.mul_lt_mul'' ha hb
theorem add_pow {a b p : Nat} (ha : a < M ^ p) (hb : b < M ^ p) : a + b < M ^ (p + 1) := by
  rw [Nat.pow_succ]
  have : M ^ p * 2 ≤ M ^ p * M := Nat.mul_le_mul_left _ (by unfold M; omega)
  omega
theorem pow_up {a p q : Nat} (ha : a < M ^ p) (h : p ≤ q) : a < M ^ q := Nat.lt_of_lt_of_le ha (pow_mono h)
theorem len_up {n p k : Nat} (h : n < M ^ p) (hp : p ≤ k) : (limbs n).length ≤ k := Nat.le_trans (limbs_len h) hp

end Go.Proofs.Ytmbdidompjgaaaa
