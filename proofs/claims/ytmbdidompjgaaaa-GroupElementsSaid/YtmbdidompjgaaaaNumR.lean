/- Plain arithmetic of the document's product and of its division bit by bit. No condition but those that each theorem names. -/
import Derived.Test.YtmbdidompjgaaaaNumD
namespace Go.Proofs.Ytmbdidompjgaaaa.Num

/-- A step of the document's product. -/
theorem ref_step {x y s c : Nat} (hx : x < M) (hy : y < M) (hs : s < M) (hc : c < M) :
    mulHi x y + addHi s (mulLo x y) 0 < M ∧ mulHi x y + addHi s (mulLo x y) 0 + addHi (addLo s (mulLo x y) 0) c 0 < M ∧
      addLo (addLo s (mulLo x y) 0) c 0 + M * (mulHi x y + addHi s (mulLo x y) 0 + addHi (addLo s (mulLo x y) 0) c 0) = x * y + s + c := by
  have h1 := mul_split x y
  have h2 := add_split s (mulLo x y) 0
  have h3 := add_split (addLo s (mulLo x y) 0) c 0
  have h4 := mul_most hx hy
  generalize x * y = P at *
  generalize addLo (addLo s (mulLo x y) 0) c 0 = n at *
  generalize addHi (addLo s (mulLo x y) 0) c 0 = d at *
  generalize addLo s (mulLo x y) 0 = l at *
  generalize addHi s (mulLo x y) 0 = e at *
  generalize mulHi x y = h at *
  generalize mulLo x y = q at *
  unfold M at *
  omega

theorem add_nought {c : Nat} (hc : c < M) : addLo 0 c 0 = c ∧ addHi 0 c 0 = 0 := by
  unfold addLo addHi
  rw [Nat.zero_add, show c + 0 = c from rfl]
  exact ⟨Nat.mod_eq_of_lt hc, Nat.div_eq_of_lt hc⟩

theorem upd_nought {f : Nat → Nat} {i : Nat} (h : f i = 0) : upd f i 0 = f := by
  funext j
  unfold upd
  split
  · rename_i e
    rw [e, h]
  · rfl

/-- One bit more of the number, and of the quotient. -/
theorem bit_more (A c : Nat) : A / 2 ^ c = 2 * (A / 2 ^ (c + 1)) + bitN A c := by
  unfold bitN
  rw [Nat.pow_succ, ← Nat.div_div_eq_div_mul]
  generalize A / 2 ^ c = p
  omega
theorem bit_rest {A B c r : Nat} (hr : r = A / 2 ^ (c + 1) % B) : (2 * r + bitN A c) % B = A / 2 ^ c % B := by
  rw [bit_more A c, hr, Nat.add_mod, Nat.mul_mod, Nat.mod_mod, ← Nat.mul_mod, ← Nat.add_mod]
theorem bit_le (A c : Nat) : bitN A c ≤ 1 := by
  unfold bitN
  omega
theorem bit_quo {A B c : Nat} (hB : 0 < B) : A / 2 ^ c / B = 2 * (A / 2 ^ (c + 1) / B) + (2 * (A / 2 ^ (c + 1) % B) + bitN A c) / B := by
  rw [bit_more A c]
  generalize A / 2 ^ (c + 1) = P
  have h := Nat.div_add_mod P B
  have e : 2 * P + bitN A c = (2 * (P % B) + bitN A c) + B * (2 * (P / B)) := by
    rw [Nat.mul_left_comm]
    generalize B * (P / B) = Z at *
    omega
  rw [e, Nat.add_mul_div_left _ _ hB, Nat.add_comm]
theorem bit_no {A B c : Nat} (hB : 0 < B) (h : 2 * (A / 2 ^ (c + 1) % B) + bitN A c < B) : A / 2 ^ c % B = 2 * (A / 2 ^ (c + 1) % B) + bitN A c ∧ A / 2 ^ c / B * 2 ^ c = A / 2 ^ (c + 1) / B * 2 ^ (c + 1) := by
  have h1 := bit_quo (A := A) (c := c) hB
  have h2 := bit_rest (A := A) (B := B) (c := c) rfl
  rw [Nat.mod_eq_of_lt h] at h2
  rw [Nat.div_eq_of_lt h] at h1
  refine ⟨h2.symm, ?_⟩
  rw [h1]
  generalize A / 2 ^ (c + 1) / B = Q
  rw [Nat.pow_succ]
  generalize 2 ^ c = P
  simp only [Nat.add_zero]
  rw [Nat.mul_comm 2 Q, Nat.mul_assoc, Nat.mul_comm P 2]
theorem bit_yes {A B c : Nat} (hB : 0 < B) (h : B ≤ 2 * (A / 2 ^ (c + 1) % B) + bitN A c) : A / 2 ^ c % B = 2 * (A / 2 ^ (c + 1) % B) + bitN A c - B ∧ A / 2 ^ c / B * 2 ^ c = A / 2 ^ (c + 1) / B * 2 ^ (c + 1) + 2 ^ c := by
  have h1 := bit_quo (A := A) (c := c) hB
  have h2 := bit_rest (A := A) (B := B) (c := c) rfl
  have h3 := Nat.mod_lt (A / 2 ^ (c + 1)) hB
  have h4 := bit_le A c
  have h5 : (2 * (A / 2 ^ (c + 1) % B) + bitN A c) / B = 1 := by
    refine Nat.div_eq_of_lt_le (by omega) (by omega)
  have h6 : (2 * (A / 2 ^ (c + 1) % B) + bitN A c) % B = 2 * (A / 2 ^ (c + 1) % B) + bitN A c - B := by
    rw [Nat.mod_eq_sub_mod h, Nat.mod_eq_of_lt (by omega)]
  rw [h6] at h2
  rw [h5] at h1
  refine ⟨h2.symm, ?_⟩
  rw [h1]
  generalize A / 2 ^ (c + 1) / B = Q
  rw [Nat.pow_succ]
  generalize 2 ^ c = P
  rw [Nat.add_mul, Nat.one_mul, Nat.mul_comm 2 Q, Nat.mul_assoc, Nat.mul_comm P 2]

/-- A limb of a row, off the number that the row is. -/
theorem sm_limb {f : Nat → Nat} {n j : Nat} (hf : ∀ j, f j < M) (hj : j < n) : f j = sm f 0 n / M ^ j % M := by
  have e := sm_split f 0 j (n - j)
  rw [Nat.zero_add, Nat.add_sub_cancel' (Nat.le_of_lt hj)] at e
  have e2 : n - j = (n - j - 1) + 1 := by omega
  have e3 := sm_top f j (n - j - 1)
  rw [← e2] at e3
  rw [e, Nat.add_mul_div_left _ _ (pow_M_pos j), Nat.div_eq_of_lt (sm_lt hf 0 j), Nat.zero_add, e3, Nat.add_mul_mod_self_left, Nat.mod_eq_of_lt (hf j)]

theorem sm_set {f : Nat → Nat} {n j v d : Nat} (hj : j < n) (e : v = f j + d) : sm (upd f j v) 0 n = sm f 0 n + M ^ j * d := by
  have s1 := sm_split (upd f j v) 0 j (n - j)
  have s2 := sm_split f 0 j (n - j)
  rw [Nat.zero_add, Nat.add_sub_cancel' (Nat.le_of_lt hj)] at s1 s2
  have e2 : n - j = (n - j - 1) + 1 := by omega
  have s3 := sm_top (upd f j v) j (n - j - 1)
  have s4 := sm_top f j (n - j - 1)
  rw [← e2] at s3 s4
  have s5 : sm (upd f j v) 0 j = sm f 0 j := sm_upd_out f v (.inr (Nat.le_of_eq (Nat.zero_add j)))
  have s6 : sm (upd f j v) (j + 1) (n - j - 1) = sm f (j + 1) (n - j - 1) := sm_upd_out f v (.inl (Nat.lt_succ_self j))
  rw [s1, s2, s3, s4, s5, s6, upd_same, e]
  simp only [Nat.mul_add]
  generalize M ^ j * f j = X
  generalize M ^ j * d = Y
  generalize M ^ j * (M * sm f (j + 1) (n - j - 1)) = Z
  omega

/-- The bit that the document sets was not set. -/
theorem bit_set {f : Nat → Nat} {n c Q : Nat} (hf : ∀ j, f j < M) (hc : c / 64 < n) (h : sm f 0 n = Q * 2 ^ (c + 1)) : ∃ y, f (c / 64) = 2 ^ (c % 64 + 1) * y := by
  have h1 := sm_limb hf hc
  rw [h] at h1
  have hp : M ^ (c / 64) = 2 ^ (64 * (c / 64)) := (two_pow_M _).symm
  have e : 2 ^ (c + 1) = 2 ^ (c % 64 + 1) * 2 ^ (64 * (c / 64)) := by
    rw [← Nat.pow_add]
    congr 1
    omega
  rw [hp, e, ← Nat.mul_assoc, Nat.mul_div_cancel _ (Nat.two_pow_pos _)] at h1
  have e2 : M = 2 ^ (c % 64 + 1) * 2 ^ (63 - c % 64) := by
    rw [← Nat.pow_add, M_two]
    congr 1
    omega
  rw [e2, Nat.mul_comm Q, Nat.mul_mod_mul_left] at h1
  exact ⟨_, h1⟩
theorem two_place (c : Nat) : M ^ (c / 64) * 2 ^ (c % 64) = 2 ^ c := by
  rw [← two_pow_M, ← Nat.pow_add]
  congr 1
  omega

end Go.Proofs.Ytmbdidompjgaaaa.Num
