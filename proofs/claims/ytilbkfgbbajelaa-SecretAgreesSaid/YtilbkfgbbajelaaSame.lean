/- lodgeref01.Same answers whether two lists are one number; bounds by powers of 2^64. Conditions: the slices read as limbs; lengths below 2^40. -/
import Derived.Test.YtilbkfgbbajelaaRefB
import Derived.Test.YtilbkfgbbajelaaLenA
namespace Go.Proofs.Ytilbkfgbbajelaa
open Go.RowKit Go.Shelf Num
set_option linter.unusedVariables false

theorem val_pow {xs : List Nat} {k : Nat} (ho : Ok xs) (h : xs.length ≤ k) : val xs < M ^ k := Nat.lt_of_lt_of_le (val_lt ho) (pow_mono h)
theorem mul_pow {a b p q : Nat} (ha : a < M ^ p) (hb : b < M ^ q) : a * b < M ^ (p + q) := by
  rw [Nat.pow_add]
  exact Nat.mul_lt_mul'' ha hb
theorem add_pow {a b p : Nat} (ha : a < M ^ p) (hb : b < M ^ p) : a + b < M ^ (p + 1) := by
  rw [Nat.pow_succ]
  have : M ^ p * 2 ≤ M ^ p * M := Nat.mul_le_mul_left _ (by unfold M; omega)
  omega
theorem pow_up {a p q : Nat} (ha : a < M ^ p) (h : p ≤ q) : a < M ^ q := Nat.lt_of_lt_of_le ha (pow_mono h)
theorem len_up {n p k : Nat} (h : n < M ^ p) (hp : p ≤ k) : (limbs n).length ≤ k := Nat.le_trans (limbs_len h) hp

end Go.Proofs.Ytilbkfgbbajelaa
