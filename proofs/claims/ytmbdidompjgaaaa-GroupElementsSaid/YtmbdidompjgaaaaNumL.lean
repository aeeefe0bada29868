/- Plain arithmetic of products and quotients, limb by limb: sums of limbs that lie in a row, a step of each loop, a quotient's guess. No condition but those that each theorem names. -/
import Derived.Test.YtmbdidompjgaaaaNum
namespace Go.Proofs.Ytmbdidompjgaaaa.Num

/-- The number that k limbs of a row from o on are. -/
def sm (f : Nat → Nat) (o : Nat) : Nat → Nat
  | 0 => 0
  | k + 1 => sm f o k + M ^ k * f (o + k)
def upd (f : Nat → Nat) (i x : Nat) : Nat → Nat := fun j => if j = i then x else f j
theorem upd_same (f : Nat → Nat) (i x : Nat) : upd f i x i = x := by simp [upd]
theorem upd_other (f : Nat → Nat) {i j : Nat} (x : Nat) (h : j ≠ i) : upd f i x j = f j := by simp [upd, h]
theorem upd_lt {f : Nat → Nat} (h : ∀ j, f j < M) (i : Nat) {x : Nat} (hx : x < M) : ∀ j, upd f i x j < M := by
  intro j; unfold upd; split
  · exact hx
  · exact h j

theorem sm_zero (f : Nat → Nat) (o : Nat) : sm f o 0 = 0 := rfl
theorem sm_succ (f : Nat → Nat) (o k : Nat) : sm f o (k + 1) = sm f o k + M ^ k * f (o + k) := rfl
theorem sm_congr {f g : Nat → Nat} {o k : Nat} (h : ∀ j, j < k → f (o + j) = g (o + j)) : sm f o k = sm g o k := by
  induction k with
  | zero => rfl
  | succ k ih => rw [sm_succ, sm_succ, ih (fun j hj => h j (by omega)), h k (by omega)]
theorem sm_lt {f : Nat → Nat} (h : ∀ j, f j < M) (o k : Nat) : sm f o k < M ^ k := by
  induction k with
  | zero => simp [sm]
  | succ k ih =>
    rw [sm_succ, Nat.pow_succ]
    have h1 := h (o + k)
    have h2 : M ^ k * (f (o + k) + 1) ≤ M ^ k * M := Nat.mul_le_mul_left _ h1
    rw [Nat.mul_add] at h2
    omega
theorem sm_split (f : Nat → Nat) (o j k : Nat) : sm f o (j + k) = sm f o j + M ^ j * sm f (o + j) k := by
  induction k with
  | zero => simp [sm]
  | succ k ih =>
    rw [← Nat.add_assoc, sm_succ, ih, sm_succ, Nat.mul_add, Nat.pow_add, Nat.mul_assoc]
    have e : o + (j + k) = o + j + k := by omega
    rw [e]
    omega
theorem sm_upd_out (f : Nat → Nat) {i o k : Nat} (x : Nat) (h : i < o ∨ o + k ≤ i) : sm (upd f i x) o k = sm f o k := sm_congr fun j hj => upd_other f x (by omega)
theorem sm_upd_last (f : Nat → Nat) (o k x : Nat) : sm (upd f (o + k) x) o (k + 1) = sm f o k + M ^ k * x := by
  rw [sm_succ, sm_upd_out f x (.inr (Nat.le_refl _)), upd_same]
theorem sm_nought {f : Nat → Nat} {o k : Nat} (h : ∀ j, j < k → f (o + j) = 0) : sm f o k = 0 := by
  induction k with
  | zero => rfl
  | succ k ih => rw [sm_succ, ih (fun j hj => h j (by omega)), h k (by omega)]; simp
theorem sm_nought' {f : Nat → Nat} {o k : Nat} (h : sm f o k = 0) : ∀ j, j < k → f (o + j) = 0 := by
  induction k with
  | zero => intro j hj; omega
  | succ k ih =>
    rw [sm_succ] at h
    intro j hj
    rcases Nat.lt_or_ge j k with h1 | h1
    · exact ih (by omega) j h1
    · obtain rfl : j = k := by omega
      have h2 : M ^ j * f (o + j) = 0 := by omega
      have h3 : 0 < M ^ j := Nat.pow_pos M_pos
      rcases Nat.mul_eq_zero.1 h2 with h4 | h4 <;> omega
theorem val_upto_sm (f : Nat → Nat) (n : Nat) : val (upto f n) = sm f 0 n := by
  induction n with
  | zero => rfl
  | succ n ih => rw [upto_succ, val_snoc, upto_length, ih, sm_succ, Nat.zero_add]
theorem val_sm (xs : List Nat) : val xs = sm (lat xs) 0 xs.length := by
  rw [← val_upto xs xs.length (Nat.le_refl _), val_upto_sm]; rfl
theorem sm_shift (f : Nat → Nat) (o k : Nat) : sm (fun j => f (o + j)) 0 k = sm f o k := by
  induction k with
  | zero => rfl
  | succ k ih => rw [sm_succ, sm_succ, ih, Nat.zero_add]
theorem lat_upto (f : Nat → Nat) {n j : Nat} (h : j < n) : lat (upto f n) j = f j := by simp [lat, upto, h]
theorem ok_upto {f : Nat → Nat} (h : ∀ j, f j < M) (n : Nat) : Ok (upto f n) := by
  intro x hx
  obtain ⟨j, _, rfl⟩ := List.mem_map.1 hx
  exact h j
theorem pow_M_pos (k : Nat) : 0 < M ^ k := Nat.pow_pos M_pos

/-! ### A product of two limbs -/
def mulHi (x y : Nat) : Nat := x * y / M
def mulLo (x y : Nat) : Nat := x * y % M
theorem mulHi_lt {x y : Nat} (hx : x < M) (hy : y < M) : mulHi x y < M := Nat.div_lt_of_lt_mul (Nat.mul_lt_mul'' hx hy)
theorem mulLo_lt (x y : Nat) : mulLo x y < M := Nat.mod_lt _ M_pos
theorem mul_split (x y : Nat) : mulLo x y + M * mulHi x y = x * y := Nat.mod_add_div _ _
theorem mul_most {x y : Nat} (hx : x < M) (hy : y < M) : x * y ≤ 340282366920938463426481119284349108225 := by
  have : x * y ≤ 18446744073709551615 * 18446744073709551615 := Nat.mul_le_mul (by unfold M at hx; omega) (by unfold M at hy; omega)
  simpa using this

/-- What a step of addTimes carries. -/
def mulC1 (x y s : Nat) : Nat := mulHi x y + addHi (mulLo x y) s 0
def mulN (x y s c : Nat) : Nat := addLo (addLo (mulLo x y) s 0) c 0
def mulC (x y s c : Nat) : Nat := mulC1 x y s + addHi (addLo (mulLo x y) s 0) c 0
theorem mul_step {x y s c : Nat} (hx : x < M) (hy : y < M) (hs : s < M) (hc : c < M) :
    mulC1 x y s < M ∧ mulC x y s c < M ∧ mulN x y s c + M * mulC x y s c = x * y + s + c := by
  have h1 := mul_split x y
  have h2 := add_split (mulLo x y) s 0
  have h3 := add_split (addLo (mulLo x y) s 0) c 0
  have h4 := mul_most hx hy
  unfold mulC mulC1 mulN
  generalize x * y = P at *
  generalize addLo (addLo (mulLo x y) s 0) c 0 = n at *
  generalize addHi (addLo (mulLo x y) s 0) c 0 = d at *
  generalize addLo (mulLo x y) s 0 = l at *
  generalize addHi (mulLo x y) s 0 = e at *
  generalize mulHi x y = h at *
  generalize mulLo x y = q at *
  unfold M at *
  omega

/-- A step of takeTimes. -/
theorem tak_step {x y r c : Nat} (hx : x < M) (hy : y < M) (hr : r < M) (hc : c < M) :
    mulHi x y + addHi (mulLo x y) c 0 < M ∧ mulHi x y + addHi (mulLo x y) c 0 + subHi r (addLo (mulLo x y) c 0) 0 < M ∧
      subLo r (addLo (mulLo x y) c 0) 0 + x * y + c = r + M * (mulHi x y + addHi (mulLo x y) c 0 + subHi r (addLo (mulLo x y) c 0) 0) := by
  have h1 := mul_split x y
  have h2 := add_split (mulLo x y) c 0
  have h5 := addLo_lt (mulLo x y) c 0
  have h3 := sub_split hr h5 (Nat.zero_le 1)
  have h4 := mul_most hx hy
  have h6 := subLo_lt r (addLo (mulLo x y) c 0) 0
  have h7 := subHi_le r (addLo (mulLo x y) c 0) 0
  generalize x * y = P at *
  generalize subLo r (addLo (mulLo x y) c 0) 0 = n at *
  generalize subHi r (addLo (mulLo x y) c 0) 0 = d at *
  generalize addLo (mulLo x y) c 0 = l at *
  generalize addHi (mulLo x y) c 0 = e at *
  generalize mulHi x y = h at *
  generalize mulLo x y = q at *
  unfold M at *
  omega

/-- One more limb of a sum of a multiple. -/
theorem add_round {P a b c s y x c' n X : Nat} (h : a + P * c = b + x * X) (e : n + M * c' = x * y + s + c) : (a + P * n) + P * M * c' = (b + P * s) + x * (X + P * y) := by
  have e2 := congrArg (P * ·) e
  simp only [Nat.mul_add] at e2
  rw [Nat.mul_add, Nat.mul_left_comm x P y, Nat.mul_assoc P M c']
  omega
theorem tak_round {P a b c r y x c' n X : Nat} (h : a + x * X = b + P * c) (e : n + x * y + c = r + M * c') : (a + P * n) + x * (X + P * y) = (b + P * r) + P * M * c' := by
  have e2 := congrArg (P * ·) e
  simp only [Nat.mul_add] at e2
  rw [Nat.mul_add, Nat.mul_left_comm x P y, Nat.mul_assoc P M c']
  omega
theorem tak_last {P a b c r x c' n X : Nat} (h : a + x * X = b + P * c) (e : n + c + 0 = r + M * c') : (a + P * n) + x * X = (b + P * r) + P * M * c' := by
  have e2 := congrArg (P * ·) e
  simp only [Nat.mul_add, Nat.mul_zero] at e2
  rw [Nat.mul_assoc P M c']
  omega
theorem put_last {P a b c r c' n X : Nat} (h : a + P * c = b + X) (e : n + M * c' = r + 0 + c) : (a + P * n) + P * M * c' = (b + P * r) + X := by
  have e2 := congrArg (P * ·) e
  simp only [Nat.mul_add, Nat.mul_zero] at e2
  rw [Nat.mul_assoc P M c']
  omega
theorem put_round {P a b c r y c' n X : Nat} (h : a + P * c = b + X) (e : n + M * c' = r + y + c) : (a + P * n) + P * M * c' = (b + P * r) + (X + P * y) := by
  have e2 := congrArg (P * ·) e
  simp only [Nat.mul_add] at e2
  rw [Nat.mul_assoc P M c']
  omega

/-- One more limb of the first factor. -/
theorem mul_outer {f f' : Nat → Nat} {k m c x V S : Nat} (h1 : ∀ j, j < k → f' j = f j) (h2 : sm f' k m + M ^ m * c = sm f k m + x * V) (h3 : sm f 0 (k + m) = S * V) : sm (upd f' (k + m) c) 0 (k + 1 + m) = (S + M ^ k * x) * V := by
  have e0 : k + 1 + m = (k + m) + 1 := by omega
  have e1 : sm (upd f' (k + m) c) 0 (k + m + 1) = sm f' 0 (k + m) + M ^ (k + m) * c := by
    have := sm_upd_last f' 0 (k + m) c
    rwa [Nat.zero_add] at this
  rw [e0, e1, sm_split, Nat.zero_add, Nat.pow_add, Nat.mul_assoc, Nat.add_assoc, ← Nat.mul_add, h2, Nat.mul_add, ← Nat.add_assoc]
  have e2 : sm f' 0 k = sm f 0 k := sm_congr fun j hj => by rw [Nat.zero_add]; exact h1 j hj
  have e3 := sm_split f 0 k m
  rw [Nat.zero_add] at e3
  rw [e2, ← e3, h3, Nat.add_mul, Nat.mul_assoc]

/-! ### One digit of a quotient -/
/-- What takeAll keeps: with t times D taken from R, what went below 0 borrowed from P. -/
theorem put_back {S D t R P S' c : Nat} (h : S + t * D = R + P) (hS : S < P) (e : S' + P * c = S + D) (hc : c ≤ 1) : 1 ≤ t ∧ R < t * D ∧ S' + (t - 1) * D = R + P * (1 - c) := by
  have h1 : R < t * D := by omega
  have ht : 1 ≤ t := by
    rcases Nat.eq_zero_or_pos t with rfl | h2
    · simp at h1
    · exact h2
  obtain ⟨u, rfl⟩ : ∃ u, t = u + 1 := ⟨t - 1, by omega⟩
  refine ⟨ht, h1, ?_⟩
  rw [Nat.add_sub_cancel]
  rw [Nat.add_mul] at h
  rcases Nat.lt_or_ge c 1 with h3 | h3
  · obtain rfl : c = 0 := by omega
    simp at e ⊢
    omega
  · obtain rfl : c = 1 := by omega
    simp at e ⊢
    omega
theorem more_than {t D R : Nat} (hD : 0 < D) (h : R < t * D) : R / D ≤ t - 1 := by
  have : R / D < t := (Nat.div_lt_iff_lt_mul hD).2 h
  omega
theorem all_taken {S D t R : Nat} (hD : 0 < D) (h : S + t * D = R) (hq : R / D ≤ t) : t = R / D ∧ S = R % D := by
  have h1 : t ≤ R / D := (Nat.le_div_iff_mul_le hD).2 (by omega)
  have h2 : t = R / D := by omega
  refine ⟨h2, ?_⟩
  have h3 := Nat.mod_add_div R D
  rw [← h2, Nat.mul_comm D t] at h3
  omega

/-- A guess by the highest limbs is not too small. -/
theorem guess_ge {R D P h l d : Nat} (hP : 0 < P) (hd : 0 < d) (hR : R < (h * M + l + 1) * P) (hD : d * P ≤ D) : R / D ≤ (h * M + l) / d := by
  have hDp : 0 < d * P := Nat.mul_pos hd hP
  have h1 : R / D ≤ R / (d * P) := Nat.div_le_div_left hD hDp
  have h2 : R / (d * P) = R / P / d := by rw [Nat.mul_comm, Nat.div_div_eq_div_mul]
  have h3 : R / P ≤ h * M + l := by
    have : R / P < h * M + l + 1 := (Nat.div_lt_iff_lt_mul hP).2 hR
    omega
  have h4 : R / P / d ≤ (h * M + l) / d := Nat.div_le_div_right h3
  omega

/-! ### Two limbs by one, by halves -/
theorem dig_all (Q y1 y0 : Nat) : Q * (y1 * 4294967296 + y0) = Q * y1 * 4294967296 + Q * y0 := by rw [Nat.mul_add, Nat.mul_assoc]
/-- Where the digit is too great. -/
theorem dig_more {Q R y1 y0 hi u1 : Nat} (h : Q * y1 + R = hi) (hq : hi < y1 * 4294967296 + y0) (hu : u1 < 4294967296) (hc : 4294967296 ≤ Q ∨ 4294967296 * R + u1 < Q * y0) : hi * 4294967296 + u1 < Q * (y1 * 4294967296 + y0) := by
  rcases hc with hc | hc
  · have h1 : 4294967296 * (y1 * 4294967296 + y0) ≤ Q * (y1 * 4294967296 + y0) := Nat.mul_le_mul_right _ hc
    omega
  · rw [dig_all]
    generalize Q * y1 = a at *
    generalize Q * y0 = b at *
    omega
theorem dig_not {Q R y1 y0 hi u1 : Nat} (h : Q * y1 + R = hi) (hc : Q * y0 ≤ 4294967296 * R + u1) : Q * (y1 * 4294967296 + y0) ≤ hi * 4294967296 + u1 := by
  rw [dig_all]
  generalize Q * y1 = a at *
  generalize Q * y0 = b at *
  omega
theorem dig_brk {Q R y0 u1 : Nat} (hQ : Q ≤ 4294967296) (hy : y0 < 4294967296) (hR : 4294967296 ≤ R) : Q * y0 ≤ 4294967296 * R + u1 := by
  have h1 : Q * y0 ≤ 4294967296 * 4294967295 := Nat.mul_le_mul hQ (by omega)
  omega
theorem dig_small {Q y0 : Nat} (hQ : Q < 4294967296) (hy : y0 < 4294967296) : Q * y0 < 18446744073709551616 := by
  have h1 : Q * y0 ≤ 4294967295 * 4294967295 := Nat.mul_le_mul (by omega) (by omega)
  omega
/-- Where the search begins. -/
theorem dig_start {y1 y0 hi u1 : Nat} (hy1 : 2147483648 ≤ y1) (hy0 : y0 < 4294967296) (hq : hi < y1 * 4294967296 + y0) (hu : u1 < 4294967296) :
    hi / y1 * y1 + hi % y1 = hi ∧ (hi * 4294967296 + u1) / (y1 * 4294967296 + y0) ≤ hi / y1 ∧ hi / y1 ≤ 4294967297 ∧ hi % y1 < y1 := by
  have hp : 0 < y1 := by omega
  have h1 := Nat.div_add_mod' hi y1
  have h2 := Nat.mod_lt hi hp
  refine ⟨h1, ?_, ?_, h2⟩
  · have h3 : hi * 4294967296 + u1 < (hi / y1 + 1) * (y1 * 4294967296 + y0) := by
      rw [dig_all, Nat.add_mul]
      generalize hi / y1 * y1 = a at *
      omega
    have := (Nat.div_lt_iff_lt_mul (by omega)).2 h3
    omega
  · have h3 : hi < 4294967298 * y1 := by omega
    have : hi / y1 < 4294967298 := (Nat.div_lt_iff_lt_mul hp).2 h3
    omega
theorem dig_less {Q U D : Nat} (hD : 0 < D) (h : U < Q * D) : 1 ≤ Q ∧ U / D ≤ Q - 1 := by
  have h1 : U / D < Q := (Nat.div_lt_iff_lt_mul hD).2 h
  clear h
  generalize U / D = q at *
  omega
theorem dig_is {Q U D : Nat} (hD : 0 < D) (h : Q * D ≤ U) (hq : U / D ≤ Q) : Q = U / D := by
  have h1 : Q ≤ U / D := (Nat.le_div_iff_mul_le hD).2 h
  omega
/-- Both digits together. -/
theorem dig_both {hi u1 u0 D : Nat} (hD : 0 < D) : (hi * 4294967296 + u1) / D * 4294967296 + ((hi * 4294967296 + u1) % D * 4294967296 + u0) / D = (hi * 18446744073709551616 + (u1 * 4294967296 + u0)) / D := by
  obtain ⟨A, hA⟩ : ∃ A, A = hi * 4294967296 + u1 := ⟨_, rfl⟩
  rw [← hA]
  have e1 := Nat.div_add_mod' A D
  have e2 : hi * 18446744073709551616 + (u1 * 4294967296 + u0) = (A % D * 4294967296 + u0) + A / D * 4294967296 * D := by
    rw [Nat.mul_right_comm]
    generalize A / D * D = q at *
    generalize A % D = r at *
    omega
  rw [e2, Nat.add_mul_div_right _ _ hD]
  exact Nat.add_comm _ _

end Go.Proofs.Ytmbdidompjgaaaa.Num
