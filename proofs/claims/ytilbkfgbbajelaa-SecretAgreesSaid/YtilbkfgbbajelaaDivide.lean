/- long.Divide answers the quotient and what is left; nothing and false, by 0. Conditions: both slices read as limbs; lengths below 2^39. -/
import Derived.Test.YtilbkfgbbajelaaTakeA
import Derived.Test.YtilbkfgbbajelaaShift
import Derived.Test.YtilbkfgbbajelaaNumA
namespace Go.Proofs.Ytilbkfgbbajelaa
open Go.RowKit Go.Shelf Num
set_option linter.unusedVariables false

theorem nbits_ge {b : Nat} (h : b ≠ 0) : 1 ≤ nbits b ∧ 2 ^ (nbits b - 1) ≤ b := by
  have h1 : 1 ≤ nbits b := by
    rcases Nat.eq_zero_or_pos (nbits b) with h2 | h2
    · have h3 : b < 2 ^ 0 := nbits_le.1 (by omega)
      rw [Nat.pow_zero] at h3
      omega
    · exact h2
  refine ⟨h1, ?_⟩
  rcases Nat.lt_or_ge b (2 ^ (nbits b - 1)) with h2 | h2
  · have := nbits_le.2 h2
    omega
  · exact h2

/-- Of a number that is not 0: its limbs, the highest one, how many bits that has. -/
theorem limbs_top {b : Nat} (h : b ≠ 0) : ∃ m, (limbs b).length = m + 1 ∧ lat (limbs b) m ≠ 0 ∧ nbits b = 64 * m + nbits (lat (limbs b) m) ∧ M ^ m ≤ b := by
  have hl : (limbs b).length ≠ 0 := by
    intro h0
    have := List.eq_nil_of_length_eq_zero h0
    have h1 := val_limbs b
    rw [this] at h1
    exact h h1.symm
  obtain ⟨m, hm⟩ : ∃ m, (limbs b).length = m + 1 := ⟨(limbs b).length - 1, by omega⟩
  obtain ⟨e1, e2, _⟩ := nbits_limbs (limbs b) (ok_limbs b) m (by unfold hgt; rw [trim_limbs]; exact hm)
  rw [val_limbs] at e1
  refine ⟨m, hm, e2, e1, ?_⟩
  obtain ⟨h1, h2⟩ := nbits_ge h
  obtain ⟨h3, _⟩ := nbits_ge e2
  refine Nat.le_trans ?_ h2
  rw [← two_pow_M]
  exact Nat.pow_le_pow_right (by omega) (by omega)

theorem limbs_lt (a : Nat) : a < M ^ (limbs a).length := by
  have := val_lt (ok_limbs a)
  rwa [val_limbs] at this

theorem limbs_len_val {xs : List Nat} (h : Ok xs) : (limbs (val xs)).length ≤ xs.length := limbs_len (val_lt h)

set_option maxRecDepth 100000 in
set_option maxHeartbeats 4000000 in
theorem divide_zero (v u : Value) (xs ys : List Nat) (w : World) (hLa : Lim w.heap.size w v xs) (hLb : Lim w.heap.size w u ys) (hlx : xs.length ≤ 274877906944) (hly : ys.length ≤ 274877906944) (h0 : val ys = 0) :
    Calls Try.prog 53 #[v, u] w fun e W' => e = .returned (.tuple #[.slice none 0 0, .slice none 0 0, .bool false]) ∧ Below w.heap.size w W' := by
  obtain ⟨A, ca, rfl, _⟩ := id hLa
  obtain ⟨B, cb, rfl, _⟩ := id hLb
  go_enter Try.func53, Try.ntmps53
  go_wp2_with fail
  refine (trim_any _ xs _ hLa (by omega)).mono ?_
  rintro e W1 ⟨r1, rfl, hL1, hB1⟩
  go_wp2_with fail
  refine (trim_any _ ys _ (hLb.next hB1) (by omega)).mono ?_
  rintro e W2 ⟨r2, rfl, hL2, hB2⟩
  rw [h0, limbs_zero] at hL2
  obtain ⟨A2, c2, rfl, _⟩ := hL2
  go_wp2
  go_ret3
  exact ⟨rfl, hB1.trans (hB2.mono hB1.size)⟩

set_option maxRecDepth 100000 in
set_option maxHeartbeats 4000000 in
theorem divide_less (v u : Value) (xs ys : List Nat) (w : World) (hLa : Lim w.heap.size w v xs) (hLb : Lim w.heap.size w u ys) (hlx : xs.length ≤ 274877906944) (hly : ys.length ≤ 274877906944) (h0 : val xs < val ys) :
    Calls Try.prog 53 #[v, u] w fun e W' => ∃ vr, e = .returned (.tuple #[.slice none 0 0, vr, .bool true]) ∧ Lim W'.heap.size W' vr (limbs (val xs)) ∧ Below w.heap.size w W' := by
  obtain ⟨m, hm, _, _, _⟩ := limbs_top (b := val ys) (by omega)
  have hl1 := limbs_len_val hLa.ok
  have hl2 := limbs_len_val hLb.ok
  obtain ⟨A, ca, rfl, _⟩ := id hLa
  obtain ⟨B, cb, rfl, _⟩ := id hLb
  go_enter Try.func53, Try.ntmps53
  go_wp2_with fail
  refine (trim_any _ xs _ hLa (by omega)).mono ?_
  rintro e W1 ⟨r1, rfl, hL1, hB1⟩
  go_wp2_with fail
  refine (trim_any _ ys _ (hLb.next hB1) (by omega)).mono ?_
  rintro e W2 ⟨r2, rfl, hL2, hB2⟩
  replace hL1 := hL1.next hB2
  have hcmp := compare_any r1 r2 _ _ _ hL1 hL2 (by omega) (by omega)
  rw [val_limbs, val_limbs, cmpN_lt h0] at hcmp
  have HC := Lib.hid hcmp
  clear hcmp
  obtain ⟨A2, c2, rfl, _⟩ := id hL2
  obtain ⟨A1, c1, rfl, _⟩ := id hL1
  rw [hm] at HC ⊢
  have hd : (((m : Int) + 1) == 0) = false := by simp; omega
  go_wp2_with fail
  refine HC.out.mono ?_
  rintro e W3 ⟨rfl, hB3⟩
  go_wp2
  go_ret3
  exact ⟨_, rfl, hL1.next hB3, (hB1.trans (hB2.mono hB1.size)).trans (hB3.mono (Nat.le_trans hB1.size hB2.size))⟩

end Go.Proofs.Ytilbkfgbbajelaa
