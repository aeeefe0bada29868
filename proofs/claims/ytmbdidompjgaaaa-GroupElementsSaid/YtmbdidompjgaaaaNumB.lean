/- Numbers as bytes, the highest first, in plain arithmetic: the number of bytes, the bytes of a number, where a byte stands in its limb. No condition. -/
import Derived.Test.YtmbdidompjgaaaaNumL
namespace Go.Proofs.Ytmbdidompjgaaaa.Num
set_option linter.unusedVariables false

/-- The number of bytes. -/
def bval (l : List UInt8) : Nat := l.foldl (fun a b => 256 * a + b.toNat) 0
theorem bval_nil : bval [] = 0 := rfl
theorem bval_snoc (l : List UInt8) (b : UInt8) : bval (l ++ [b]) = 256 * bval l + b.toNat := by simp [bval]
theorem byte_lt (b : UInt8) : b.toNat < 256 := b.toNat_lt
theorem bval_lt (l : List UInt8) : bval l < 256 ^ l.length := by
  induction l using snoc_ind with
  | h0 => decide
  | hs l b ih =>
    rw [bval_snoc, List.length_append, List.length_singleton, Nat.pow_succ]
    have := byte_lt b
    omega
theorem bval_cons (b : UInt8) (l : List UInt8) : bval (b :: l) = b.toNat * 256 ^ l.length + bval l := by
  induction l using snoc_ind with
  | h0 => simp [bval]
  | hs l c ih =>
    rw [← List.cons_append, bval_snoc, ih, bval_snoc, List.length_append, List.length_singleton, Nat.pow_succ, Nat.mul_add, ← Nat.mul_assoc, ← Nat.add_assoc]
    congr 2
    rw [Nat.mul_comm 256, Nat.mul_assoc]
    congr 1
    exact Nat.mul_comm _ _
theorem bval_zero_cons (l : List UInt8) : bval (0 :: l) = bval l := by rw [bval_cons]; simp

/-- k bytes of a number. -/
def digs : Nat → Nat → List UInt8
  | 0, _ => []
  | k + 1, n => digs k (n / 256) ++ [UInt8.ofNat n]
theorem digs_length : ∀ k n, (digs k n).length = k
  | 0, _ => rfl
  | k + 1, n => by simp [digs, digs_length k]
theorem ofNat_mod (n : Nat) : (UInt8.ofNat n).toNat = n % 256 := by simp
theorem bval_digs : ∀ k n, bval (digs k n) = n % 256 ^ k
  | 0, n => by simp [digs, bval, Nat.mod_one]
  | k + 1, n => by
    rw [digs, bval_snoc, bval_digs k, ofNat_mod, Nat.pow_succ, Nat.mul_comm (256 ^ k), Nat.mod_mul]
    omega
theorem ofNat_eq {a b : Nat} (h : a % 256 = b % 256) : UInt8.ofNat a = UInt8.ofNat b := by
  apply UInt8.toNat_inj.1
  rw [ofNat_mod, ofNat_mod, h]
theorem ofNat_toNat (b : UInt8) : UInt8.ofNat b.toNat = b := by simp
theorem digs_bval (l : List UInt8) : digs l.length (bval l) = l := by
  induction l using snoc_ind with
  | h0 => rfl
  | hs l b ih =>
    have hb := byte_lt b
    rw [List.length_append, List.length_singleton, digs, bval_snoc]
    have e1 : (256 * bval l + b.toNat) / 256 = bval l := by omega
    have e2 : UInt8.ofNat (256 * bval l + b.toNat) = b := by
      rw [← ofNat_toNat b]
      apply ofNat_eq
      rw [ofNat_toNat]
      omega
    rw [e1, e2, ih]
theorem digs_get : ∀ (k n i : Nat), i < k → (digs k n)[i]? = some (UInt8.ofNat (n / 256 ^ (k - 1 - i)))
  | 0, _, _, h => by omega
  | k + 1, n, i, h => by
    rw [digs]
    by_cases hi : i < k
    · rw [List.getElem?_append_left (by rw [digs_length]; exact hi), digs_get k _ i hi, Nat.div_div_eq_div_mul, Nat.mul_comm, ← Nat.pow_succ]
      congr 4
      omega
    · have e : i = k := by omega
      subst e
      rw [List.getElem?_append_right (by rw [digs_length]; omega), digs_length]
      simp

/-- How many byts a number has. -/
def nbyt (n : Nat) : Nat := (nbits n + 7) / 8
theorem pow_256 (k : Nat) : 256 ^ k = 2 ^ (8 * k) := by rw [show (256 : Nat) = 2 ^ 8 from rfl, ← Nat.pow_mul]
theorem nbyt_le {n k : Nat} : nbyt n ≤ k ↔ n < 256 ^ k := by
  rw [pow_256, ← nbits_le]
  unfold nbyt
  omega
theorem pow_256_pos (k : Nat) : 0 < 256 ^ k := Nat.pow_pos (by omega)
theorem nbyt_zero : nbyt 0 = 0 := rfl
theorem nbyt_is {n k : Nat} (h1 : 256 ^ k ≤ n) (h2 : n < 256 ^ (k + 1)) : nbyt n = k + 1 := by
  have a := nbyt_le.2 h2
  have b : ¬ nbyt n ≤ k := fun h => by have := nbyt_le.1 h; omega
  omega
theorem nbyt_mono {a b : Nat} (h : nbyt a < nbyt b) : a < b := by
  rcases Nat.lt_or_ge a b with h1 | h1
  · exact h1
  · have := nbyt_le.2 (Nat.lt_of_le_of_lt h1 (nbyt_le.1 (Nat.le_refl (nbyt a))))
    omega

/-- The bytes of a number, no nought on top. -/
def byts (n : Nat) : List UInt8 := digs (nbyt n) n
theorem byts_length (n : Nat) : (byts n).length = nbyt n := digs_length _ _
theorem bval_bytes (n : Nat) : bval (byts n) = n := by
  unfold byts
  rw [bval_digs]
  exact Nat.mod_eq_of_lt (nbyt_le.1 (Nat.le_refl _))
theorem byts_inj {a b : Nat} (h : byts a = byts b) : a = b := by rw [← bval_bytes a, h, bval_bytes]
theorem byts_zero : byts 0 = [] := rfl
theorem byts_nil {n : Nat} (h : byts n = []) : n = 0 := by rw [← bval_bytes n, h]; rfl

/-- Whether bytes are just a number's. -/
def whole : List UInt8 → Bool
  | [] => true
  | b :: _ => b != 0
theorem whole_yes {l : List UInt8} (h : whole l = true) : byts (bval l) = l := by
  cases l with
  | nil => rfl
  | cons b t =>
    have hb : b.toNat ≠ 0 := by
      intro e
      have e2 : b = 0 := by apply UInt8.toNat_inj.1; rw [e]; rfl
      subst e2
      simp [whole] at h
    have h1 : 256 ^ t.length ≤ bval (b :: t) := by
      rw [bval_cons]
      have : 1 * 256 ^ t.length ≤ b.toNat * 256 ^ t.length := Nat.mul_le_mul_right _ (by omega)
      omega
    have h2 := nbyt_is h1 (bval_lt (b :: t))
    unfold byts
    rw [h2]
    exact digs_bval (b :: t)
theorem whole_no {l : List UInt8} (h : whole l = false) : byts (bval l) ≠ l := by
  cases l with
  | nil => simp [whole] at h
  | cons b t =>
    have hb : b = 0 := by simpa [whole] using h
    subst hb
    intro e
    have e1 := congrArg List.length e
    rw [byts_length, bval_zero_cons] at e1
    have e2 := nbyt_le.2 (bval_lt t)
    simp at e1
    omega
theorem whole_bytes (n : Nat) : whole (byts n) = true := by
  cases h : whole (byts n) with
  | true => rfl
  | false => exact absurd (by rw [bval_bytes]) (whole_no h)
theorem whole_is (l : List UInt8) : (byts (bval l) == l) = whole l := by
  cases h : whole l with
  | true => rw [whole_yes h]; simp
  | false => simpa using whole_no h

/-- One byte more below. -/
theorem byts_snoc (m c : Nat) (hc : c < 256) (h : m ≠ 0 ∨ c ≠ 0) : byts (256 * m + c) = byts m ++ [UInt8.ofNat c] := by
  have e : nbyt (256 * m + c) = nbyt m + 1 := by
    have a : nbyt (256 * m + c) ≤ nbyt m + 1 := by
      rw [nbyt_le, Nat.pow_succ]
      have := nbyt_le.1 (Nat.le_refl (nbyt m))
      omega
    rcases Nat.eq_zero_or_pos (nbyt m) with h0 | h0
    · have b : ¬ nbyt (256 * m + c) ≤ 0 := fun h1 => by have := nbyt_le.1 h1; simp at this; omega
      omega
    · obtain ⟨k, hk⟩ : ∃ k, nbyt m = k + 1 := ⟨nbyt m - 1, by omega⟩
      have b : ¬ nbyt (256 * m + c) ≤ nbyt m := fun h1 => by
        rw [hk, nbyt_le, Nat.pow_succ] at h1
        have h2 : m < 256 ^ k := by omega
        have := nbyt_le.2 h2
        omega
      omega
  unfold byts
  rw [e, digs]
  have e1 : (256 * m + c) / 256 = m := by omega
  rw [e1, ofNat_eq (a := 256 * m + c) (b := c) (by omega)]

/-- The limb at j of a number. -/
def lim (n j : Nat) : Nat := n / M ^ j % M
theorem lim_lt (n j : Nat) : lim n j < M := Nat.mod_lt _ M_pos
theorem lat_val : ∀ (xs : List Nat) (h : Ok xs) (j : Nat), lat xs j = lim (val xs) j
  | [], _, j => by simp [lat, lim, val]
  | x :: t, h, j => by
    have hx : x < M := h x (by simp)
    have ht : Ok t := fun y hy => h y (by simp [hy])
    have hp := M_pos
    cases j with
    | zero =>
      simp [lat, lim, val, Nat.mod_eq_of_lt hx]
    | succ j =>
      have e : lat (x :: t) (j + 1) = lat t j := by simp [lat]
      rw [e, lat_val t ht j]
      unfold lim
      rw [show val (x :: t) = x + M * val t from rfl, Nat.pow_succ, Nat.mul_comm (M ^ j), ← Nat.div_div_eq_div_mul, Nat.add_mul_div_left _ _ hp, Nat.div_eq_of_lt hx, Nat.zero_add]
theorem M_256 : M = 256 ^ 8 := by decide
theorem M_pow_256 (j : Nat) : M ^ j = 256 ^ (8 * j) := by rw [M_256, ← Nat.pow_mul]
theorem pow_dvd {a b : Nat} (h : a ≤ b) : 256 ^ a ∣ 256 ^ b := Nat.pow_dvd_pow 256 h
theorem pow_split_256 {a b : Nat} (h : a ≤ b) : 256 ^ b = 256 ^ a * 256 ^ (b - a) := by rw [← Nat.pow_add]; congr 1; omega
/-- A byte of a limb is the number's. -/
theorem lim_byte (n p : Nat) : lim n (p / 8) / 256 ^ (p % 8) % 256 = n / 256 ^ p % 256 := by
  have hr : p % 8 < 8 := Nat.mod_lt _ (by omega)
  unfold lim
  have e1 : M = 256 ^ (p % 8) * 256 ^ (8 - p % 8) := by rw [M_256]; exact pow_split_256 (by omega)
  have e2 : n / M ^ (p / 8) / 256 ^ (p % 8) = n / 256 ^ p := by
    rw [Nat.div_div_eq_div_mul, M_pow_256, ← Nat.pow_add]
    congr 2
    omega
  generalize n / M ^ (p / 8) = x at *
  rw [e1, Nat.mod_mul_right_div_self, e2]
  apply Nat.mod_mod_of_dvd
  exact ⟨256 ^ (8 - p % 8 - 1), by rw [← Nat.pow_succ']; congr 1; omega⟩

/-- A byte laid below: elsewhere nothing turns. -/
theorem lim_other (A b p j : Nat) (hb : b < 256) (hj : j ≠ p / 8) : lim (256 ^ (p + 1) * A + b * 256 ^ p) j = lim (256 ^ (p + 1) * A) j := by
  unfold lim
  rcases Nat.lt_or_ge j (p / 8) with h | h
  · rw [← Nat.mod_mul_right_div_self, ← Nat.mod_mul_right_div_self]
    have e : M ^ j * M = 256 ^ (8 * (j + 1)) := by rw [← Nat.pow_succ, M_pow_256]
    rw [e]
    obtain ⟨z, hz⟩ := pow_dvd (a := 8 * (j + 1)) (b := p) (by omega)
    rw [hz, show b * (256 ^ (8 * (j + 1)) * z) = 256 ^ (8 * (j + 1)) * (b * z) from by rw [Nat.mul_left_comm], Nat.add_mul_mod_self_left]
  · have e : M ^ j = 256 ^ (p + 1) * 256 ^ (8 * j - (p + 1)) := by rw [M_pow_256]; exact pow_split_256 (by omega)
    have hP := pow_256_pos (p + 1)
    rw [e, ← Nat.div_div_eq_div_mul, ← Nat.div_div_eq_div_mul, Nat.mul_add_div hP, Nat.mul_div_cancel_left _ hP]
    have : b * 256 ^ p / 256 ^ (p + 1) = 0 := by
      apply Nat.div_eq_of_lt
      rw [Nat.pow_succ, Nat.mul_comm]
      exact Nat.mul_lt_mul_of_pos_left hb (pow_256_pos p)
    rw [this, Nat.add_zero]
theorem mul_three (a b c : Nat) : a * (b * c) = b * (a * c) := Nat.mul_left_comm a b c
/-- .. and at its limb it is laid in. -/
theorem lim_here (A b p : Nat) (hb : b < 256) : lim (256 ^ (p + 1) * A + b * 256 ^ p) (p / 8) = lim (256 ^ (p + 1) * A) (p / 8) ||| b * 2 ^ (8 * (p % 8)) ∧ b * 2 ^ (8 * (p % 8)) < M := by
  have hr : p % 8 < 8 := Nat.mod_lt _ (by omega)
  have hP := pow_256_pos (8 * (p / 8))
  generalize hq : p / 8 = q at *
  generalize hs : p % 8 = r at *
  have hp : p = 8 * q + r := by omega
  unfold lim
  rw [M_pow_256, ← pow_256 r]
  have e1 : 256 ^ (p + 1) * A = 256 ^ (8 * q) * (256 ^ (r + 1) * A) := by rw [← Nat.mul_assoc, ← Nat.pow_add]; congr 2; omega
  have e2 : b * 256 ^ p = 256 ^ (8 * q) * (b * 256 ^ r) := by rw [mul_three, ← Nat.pow_add]; congr 2
  rw [e1, e2, ← Nat.mul_add, Nat.mul_div_cancel_left _ hP, Nat.mul_div_cancel_left _ hP]
  have e3 : M = 256 ^ (r + 1) * 256 ^ (7 - r) := by rw [M_256, ← Nat.pow_add]; congr 1; omega
  have hlo : b * 256 ^ r < 256 ^ (r + 1) := by
    rw [Nat.pow_succ, Nat.mul_comm]
    exact Nat.mul_lt_mul_of_pos_left hb (pow_256_pos r)
  have hZ := pow_256_pos (7 - r)
  have hmod := Nat.mod_lt A hZ
  have hsum : 256 ^ (r + 1) * (A % 256 ^ (7 - r)) + b * 256 ^ r < M := by
    rw [e3]
    have : 256 ^ (r + 1) * (A % 256 ^ (7 - r) + 1) ≤ 256 ^ (r + 1) * 256 ^ (7 - r) := Nat.mul_le_mul_left _ hmod
    rw [Nat.mul_add] at this
    omega
  refine ⟨?_, by omega⟩
  have e4 : 256 ^ (r + 1) * A % M = 256 ^ (r + 1) * (A % 256 ^ (7 - r)) := by rw [e3, Nat.mul_mod_mul_left]
  have e5 : (256 ^ (r + 1) * A + b * 256 ^ r) % M = 256 ^ (r + 1) * (A % 256 ^ (7 - r)) + b * 256 ^ r := by
    rw [Nat.add_mod, e4, Nat.mod_eq_of_lt (show b * 256 ^ r < M by omega), Nat.mod_eq_of_lt hsum]
  rw [e4, e5]
  rw [pow_256 (r + 1)] at hlo ⊢
  exact Nat.two_pow_add_eq_or_of_lt hlo _
theorem sm_lim (n : Nat) : ∀ k, sm (lim n) 0 k = n % M ^ k
  | 0 => by simp [sm, Nat.mod_one]
  | k + 1 => by
    rw [sm_succ, sm_lim n k, Nat.zero_add, Nat.pow_succ, Nat.mod_mul]
    rfl

/-- What lies there when i of l's bytes have come. -/
def come (l : List UInt8) (i : Nat) : Nat := bval (l.take i) * 256 ^ (l.length - i)
theorem come_zero (l : List UInt8) : come l 0 = 0 := by simp [come, bval]
theorem come_all (l : List UInt8) : come l l.length = bval l := by simp [come]
theorem come_before (l : List UInt8) (i : Nat) (h : i < l.length) : come l i = 256 ^ (l.length - 1 - i + 1) * bval (l.take i) := by
  unfold come
  rw [Nat.mul_comm]
  congr 2
  omega
theorem come_behind (l : List UInt8) (i : Nat) (h : i < l.length) : come l (i + 1) = 256 ^ (l.length - 1 - i + 1) * bval (l.take i) + (l[i]).toNat * 256 ^ (l.length - 1 - i) := by
  unfold come
  rw [List.take_succ_eq_append_getElem h, bval_snoc, Nat.add_mul, Nat.pow_succ, show l.length - (i + 1) = l.length - 1 - i from by omega]
  congr 1
  rw [Nat.mul_comm 256, Nat.mul_assoc, Nat.mul_comm]
  congr 1
  rw [Nat.mul_comm]
theorem nbyt_limbs {xs : List Nat} (h : Ok xs) : nbyt (val xs) ≤ 8 * xs.length := by
  rw [nbyt_le, ← M_pow_256]
  exact val_lt h

end Go.Proofs.Ytmbdidompjgaaaa.Num
