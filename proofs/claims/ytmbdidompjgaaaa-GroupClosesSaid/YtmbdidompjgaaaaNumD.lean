/- Plain arithmetic of a long division, digit by digit. No condition but those that each theorem names. -/
import Derived.Test.YtmbdidompjgaaaaNumL
namespace Go.Proofs.Ytmbdidompjgaaaa.Num

theorem sm_top (f : Nat → Nat) (o k : Nat) : sm f o (k + 1) = f o + M * sm f (o + 1) k := by
  have e := sm_split f o 1 k
  rw [Nat.add_comm 1 k] at e
  rw [e]
  simp only [Nat.pow_one, sm_succ, sm_zero, Nat.pow_zero, Nat.one_mul, Nat.zero_add, Nat.add_zero]

/-- Limbs above the first m + 1 of a number below M ^ (m + 1) are noughts. -/
theorem high_nought {f : Nat → Nat} {o m k : Nat} (hk : m + 1 ≤ k) (h : sm f o k < M ^ (m + 1)) : sm f o (m + 1) = sm f o k ∧ sm f (o + (m + 1)) (k - (m + 1)) = 0 := by
  have e := sm_split f o (m + 1) (k - (m + 1))
  rw [Nat.add_sub_cancel' hk] at e
  have h0 : sm f (o + (m + 1)) (k - (m + 1)) = 0 := by
    rcases Nat.eq_zero_or_pos (sm f (o + (m + 1)) (k - (m + 1))) with h1 | h1
    · exact h1
    · have h2 : M ^ (m + 1) * 1 ≤ M ^ (m + 1) * sm f (o + (m + 1)) (k - (m + 1)) := Nat.mul_le_mul_left _ h1
      rw [Nat.mul_one] at h2
      generalize M ^ (m + 1) * sm f (o + (m + 1)) (k - (m + 1)) = Z at *
      generalize M ^ (m + 1) = P at *
      omega
  refine ⟨?_, h0⟩
  rw [e, h0, Nat.mul_zero]
  simp only [Nat.add_zero]

theorem div_lt {f : Nat → Nat} {i m n D : Nat} (hf : ∀ j, f j < M) (hD : D ≤ M ^ (m + 1)) (hi : i + (m + 1) ≤ n) (h : sm f (i + 1) (n - i) < D) : sm f i (m + 2) < M * D ∧ sm f i (m + 2) = sm f i (n + 1 - i) := by
  obtain ⟨h1, h2⟩ := high_nought (f := f) (o := i + 1) (m := m) (k := n - i) (by omega) (by omega)
  have e1 := sm_top f i (m + 1)
  have e2 := sm_top f i (n - i)
  have e3 : n - i + 1 = n + 1 - i := by omega
  rw [e3] at e2
  have e4 : m + 2 = m + 1 + 1 := rfl
  rw [e4, e1, e2, h1]
  refine ⟨?_, rfl⟩
  have h3 := hf i
  have h4 : M * (sm f (i + 1) (n - i) + 1) ≤ M * D := Nat.mul_le_mul_left _ h
  rw [Nat.mul_add] at h4
  omega

theorem div_arith {S Mi R D qd Q N : Nat} (e : S + Mi * R + D * (Mi * M) * Q = N) (hq : qd = R / D) : S + Mi * (R % D) + D * Mi * (qd + M * Q) = N := by
  have h := Nat.mod_add_div R D
  rw [← e, Nat.mul_add, hq]
  have e1 : Mi * R = Mi * (R % D) + D * Mi * (R / D) := by
    conv => lhs; rw [← h]
    rw [Nat.mul_add, Nat.mul_comm D Mi, Nat.mul_assoc]
  have e2 : D * Mi * (M * Q) = D * (Mi * M) * Q := by simp only [Nat.mul_assoc]
  rw [e1, e2]
  simp only [Nat.add_assoc]

theorem cut0 {X A P Z : Nat} (h : X = A + P * Z) (hz : Z = 0) : X = A := by
  subst hz
  simpa using h
theorem sm_at (f : Nat → Nat) (o : Nat) {j k : Nat} (h : j ≤ k) : sm f o k = sm f o j + M ^ j * sm f (o + j) (k - j) := by
  rw [← sm_split, Nat.add_sub_cancel' h]

theorem div_step {f f' q : Nat → Nat} {i m n t D N : Nat} (hf : ∀ j, f j < M) (hDp : 0 < D) (hD : D ≤ M ^ (m + 1)) (ht : t + m = n) (hi : i < t) (h : sm f (i + 1) (n - i) < D)
    (hN : sm f 0 (n + 1) + D * M ^ (i + 1) * sm q (i + 1) (t - (i + 1)) = N)
    (ho : ∀ j, (j < i ∨ i + (m + 2) ≤ j) → f' j = f j) (hR : sm f' i (m + 2) = sm f i (m + 2) % D) :
    sm f' i (n + 1 - i) < D ∧ sm f' 0 (n + 1) + D * M ^ i * sm (upd q i (sm f i (m + 2) / D)) i (t - i) = N := by
  obtain ⟨h1, h2⟩ := div_lt hf hD (by omega) h
  obtain ⟨_, h3⟩ := high_nought (f := f) (o := i + 1) (m := m) (k := n - i) (by omega) (by omega)
  have hz : sm f' (i + (m + 2)) (n + 1 - i - (m + 2)) = 0 := by
    have e : sm f' (i + (m + 2)) (n + 1 - i - (m + 2)) = sm f (i + (m + 2)) (n + 1 - i - (m + 2)) := sm_congr fun j _ => ho _ (by omega)
    rw [e]
    have e5 : i + 1 + (m + 1) = i + (m + 2) := by omega
    have e6 : n - i - (m + 1) = n + 1 - i - (m + 2) := by omega
    rw [e5, e6] at h3
    exact h3
  have e7 : sm f' i (n + 1 - i) = sm f i (m + 2) % D := (cut0 (sm_at f' i (by omega)) hz).trans hR
  refine ⟨by rw [e7]; exact Nat.mod_lt _ hDp, ?_⟩
  have s1 := sm_at f' 0 (show i ≤ n + 1 by omega)
  rw [Nat.zero_add, e7] at s1
  have s2 := sm_at f 0 (show i ≤ n + 1 by omega)
  rw [Nat.zero_add, ← h2] at s2
  have s3 : sm f' 0 i = sm f 0 i := sm_congr fun j hj => ho _ (by omega)
  have s4 := sm_top (upd q i (sm f i (m + 2) / D)) i (t - (i + 1))
  have s5 : t - (i + 1) + 1 = t - i := by omega
  have s6 : sm (upd q i (sm f i (m + 2) / D)) (i + 1) (t - (i + 1)) = sm q (i + 1) (t - (i + 1)) := sm_upd_out q _ (.inl (Nat.lt_succ_self i))
  rw [s5, upd_same, s6] at s4
  rw [s1, s3, s4]
  rw [s2, Nat.pow_succ] at hN
  exact div_arith hN rfl

/-- Where the division begins. -/
theorem div_start {f : Nat → Nat} {s a b m n t : Nat} (ht : t + m = n) (hN : sm f 0 (n + 1) = 2 ^ s * a) (ha : a < M ^ n) (hb : M ^ m ≤ b) : sm f t (m + 1) < 2 ^ s * b := by
  have e := sm_split f 0 t (m + 1)
  have e1 : t + (m + 1) = n + 1 := by omega
  rw [e1, hN, Nat.zero_add] at e
  have h1 : 2 ^ s * a < 2 ^ s * M ^ n := Nat.mul_lt_mul_of_pos_left ha (Nat.two_pow_pos s)
  have h2 : 2 ^ s * M ^ n ≤ 2 ^ s * b * M ^ t := by
    rw [← ht, Nat.add_comm t m, Nat.pow_add, ← Nat.mul_assoc]
    exact Nat.mul_le_mul_right _ (Nat.mul_le_mul_left _ hb)
  have h3 : sm f t (m + 1) * M ^ t < 2 ^ s * b * M ^ t := by
    rw [Nat.mul_comm (sm f t (m + 1))]
    omega
  exact Nat.lt_of_mul_lt_mul_right h3

/-- Where it ends. -/
theorem div_end {Q R s a b : Nat} (h : R + 2 ^ s * b * M ^ 0 * Q = 2 ^ s * a) (hR : R < 2 ^ s * b) : Q = a / b ∧ R / 2 ^ s = a % b := by
  have hp := Nat.two_pow_pos s
  rw [Nat.pow_zero, Nat.mul_one] at h
  have h1 : 2 ^ s * a / (2 ^ s * b) = Q := by
    rw [← h, Nat.add_mul_div_left _ _ (by omega), Nat.div_eq_of_lt hR, Nat.zero_add]
  have h2 : 2 ^ s * a % (2 ^ s * b) = R := by
    rw [← h, Nat.add_mul_mod_self_left, Nat.mod_eq_of_lt hR]
  rw [Nat.mul_div_mul_left _ _ hp] at h1
  rw [Nat.mul_mod_mul_left] at h2
  refine ⟨h1.symm, ?_⟩
  rw [← h2, Nat.mul_div_cancel_left _ hp]

theorem two_pow_M (k : Nat) : 2 ^ (64 * k) = M ^ k := by rw [Nat.pow_mul, ← M_two]

/-- A divisor with its highest bit moved to the top. -/
theorem norm_top {h : Nat → Nat} {b m s nb : Nat} (hh : ∀ j, h j < M) (e : sm h 0 (m + 1 + 1) = 2 ^ s * b) (hnb : s + nb = 64) (h1 : 1 ≤ nb) (lo : 2 ^ (64 * m + nb - 1) ≤ b) (hi : b < 2 ^ (64 * m + nb)) :
    sm h 0 (m + 1) = 2 ^ s * b ∧ 9223372036854775808 ≤ h m ∧ sm h 0 (m + 1) < M ^ (m + 1) := by
  have a1 : 2 ^ s * b < M ^ (m + 1) := by
    have : 2 ^ s * b < 2 ^ s * 2 ^ (64 * m + nb) := Nat.mul_lt_mul_of_pos_left hi (Nat.two_pow_pos s)
    rw [← Nat.pow_add, show s + (64 * m + nb) = 64 * (m + 1) by omega, two_pow_M] at this
    exact this
  have a2 : M ^ m * 9223372036854775808 ≤ 2 ^ s * b := by
    have : 2 ^ s * 2 ^ (64 * m + nb - 1) ≤ 2 ^ s * b := Nat.mul_le_mul_left _ lo
    rw [← Nat.pow_add, show s + (64 * m + nb - 1) = 64 * m + 63 by omega, Nat.pow_add, two_pow_M] at this
    exact this
  obtain ⟨h2, h3⟩ := high_nought (f := h) (o := 0) (m := m) (k := m + 1 + 1) (by omega) (by rw [e]; exact a1)
  rw [e] at h2
  refine ⟨h2, ?_, sm_lt hh _ _⟩
  have h4 := sm_lt hh 0 m
  rw [sm_succ, Nat.zero_add] at h2
  have h5 : M ^ m * 9223372036854775808 < M ^ m * (h m + 1) := by
    rw [Nat.mul_add]
    generalize M ^ m * h m = Z at *
    generalize M ^ m * 9223372036854775808 = Y at *
    omega
  have h6 := Nat.lt_of_mul_lt_mul_left h5
  omega

end Go.Proofs.Ytmbdidompjgaaaa.Num
