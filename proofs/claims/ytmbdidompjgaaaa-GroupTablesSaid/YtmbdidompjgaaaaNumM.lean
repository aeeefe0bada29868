/- Plain arithmetic of what powers leave, of Montgomery's products, and of an odd limb's inverse. No condition but those that each theorem names. -/
import Derived.Test.YtmbdidompjgaaaaNumL
namespace Go.Proofs.Ytmbdidompjgaaaa.Num
set_option linter.unusedVariables false

/-- What a to the power of e leaves of m. -/
@[irreducible] def pm (a e m : Nat) : Nat := a ^ e % m
theorem pm_is (a e m : Nat) : pm a e m = a ^ e % m := by unfold pm; rfl
theorem pm_zero (a m : Nat) : pm a 0 m = 1 % m := by rw [pm_is, Nat.pow_zero]
theorem pm_one (a m : Nat) : pm a 1 m = a % m := by rw [pm_is, Nat.pow_one]
theorem pm_add (a e f m : Nat) : pm a (e + f) m = pm a e m * pm a f m % m := by rw [pm_is, pm_is, pm_is, Nat.pow_add, Nat.mul_mod]
theorem pm_succ (a e m : Nat) : pm a (e + 1) m = pm a e m * a % m := by rw [pm_add, pm_one, Nat.mul_mod_mod]
theorem pm_lt (a e : Nat) {m : Nat} (h : 0 < m) : pm a e m < m := by rw [pm_is]; exact Nat.mod_lt _ h
theorem pm_mod (a e m : Nat) : pm (a % m) e m = pm a e m := by rw [pm_is, pm_is, ← Nat.pow_mod]
theorem pm_same {a b m : Nat} (e : Nat) (h : a % m = b % m) : pm a e m = pm b e m := by rw [← pm_mod a, h, pm_mod]
theorem pm_mul (a e f m : Nat) : pm a (e * f) m = pm (pm a e m) f m := by
  rw [pm_is, pm_is, pm_is, Nat.pow_mul, ← Nat.pow_mod]
theorem pm_prod (a b e m : Nat) : pm (a * b) e m = pm a e m * pm b e m % m := by
  rw [pm_is, pm_is, pm_is, Nat.mul_pow, Nat.mul_mod]
theorem pm_self (a e m : Nat) : pm a e m % m = pm a e m := by rw [pm_is, Nat.mod_mod]
theorem pm_ones (e m : Nat) : pm 1 e m = 1 % m := by rw [pm_is, Nat.one_pow]
theorem pm_nought {e : Nat} (m : Nat) (h : e ≠ 0) : pm 0 e m = 0 := by rw [pm_is, Nat.zero_pow (by omega), Nat.zero_mod]

/-- A power by the exponent's bits, the highest first. -/
def nb (l : List Bool) : Nat := l.foldl (fun n b => 2 * n + b.toNat) 0
def pe (a m : Nat) (l : List Bool) : Nat := l.foldl (fun r b => if b then r * r % m * a % m else r * r % m) (1 % m)
theorem nb_snoc (l : List Bool) (b : Bool) : nb (l ++ [b]) = 2 * nb l + b.toNat := by simp [nb]
theorem pe_snoc (a m : Nat) (l : List Bool) (b : Bool) : pe a m (l ++ [b]) = if b then pe a m l * pe a m l % m * a % m else pe a m l * pe a m l % m := by simp [pe]
theorem snoc_all {P : List Bool → Prop} (h0 : P []) (hs : ∀ l x, P l → P (l ++ [x])) : ∀ l, P l := by
  intro l
  have : ∀ r : List Bool, P r.reverse := by
    intro r
    induction r with
    | nil => exact h0
    | cons x r ih => rw [List.reverse_cons]; exact hs _ _ ih
  have h := this l.reverse
  rwa [List.reverse_reverse] at h
theorem pe_is (a m : Nat) : ∀ l, pm a (nb l) m = pe a m l := by
  apply snoc_all
  · exact pm_zero a m
  · intro l b ih
    rw [nb_snoc, pe_snoc, ← ih]
    cases b with
    | false => rw [Bool.toNat_false, Nat.add_zero, Nat.two_mul, pm_add]; rfl
    | true => rw [Bool.toNat_true, pm_succ, Nat.two_mul, pm_add]; rfl

theorem half_step (n i : Nat) : n / 2 ^ i = n / 2 ^ (i + 1) + n / 2 ^ (i + 1) + bitN n i := by
  unfold bitN
  rw [Nat.pow_succ, ← Nat.div_div_eq_div_mul]
  omega
theorem half_zero (n : Nat) : n / 2 ^ 0 = n := by rw [Nat.pow_zero, Nat.div_one]
theorem half_top (n : Nat) : n / 2 ^ nbits n = 0 := Nat.div_eq_of_lt (nbits_le.1 (Nat.le_refl _))

/-! Montgomery's products -/
theorem sm_low (f : Nat → Nat) (o k : Nat) : sm f o (k + 1) = f o + M * sm f (o + 1) k := by
  rw [Nat.add_comm k 1, sm_split]
  have : sm f o 1 = f o := by simp [sm]
  rw [this, Nat.pow_one]
theorem low_is {f : Nat → Nat} (h : ∀ j, f j < M) (o k : Nat) : sm f o (k + 1) % M = f o := by
  rw [sm_low, Nat.add_mul_mod_self_left, Nat.mod_eq_of_lt (h o)]
theorem val_low {xs : List Nat} (h : Ok xs) (hp : 0 < xs.length) : val xs % M = lat xs 0 := by
  obtain ⟨k, hk⟩ : ∃ k, xs.length = k + 1 := ⟨xs.length - 1, by omega⟩
  rw [val_sm, hk, low_is (ok_get h)]

theorem carry_lo (c1 c2 c : Nat) : addLo (addLo c1 c2 0) 0 c = (c1 + c2 + c) % M := by unfold addLo M; omega
theorem carry_hi (c1 c2 c : Nat) : addHi (addLo c1 c2 0) 0 c + addHi c1 c2 0 = (c1 + c2 + c) / M := by unfold addLo addHi M; omega
theorem carry_le {c1 c2 c : Nat} (h1 : c1 < M) (h2 : c2 < M) (h : c ≤ 1) : (c1 + c2 + c) / M ≤ 1 := by unfold M at *; omega

theorem mont_alg {P Q V x y u m X q V' : Nat} (h : Q * V = X * y + q * m) (e : M * V' = V + x * y + u * m) : Q * M * V' = (X + Q * x) * y + (q + Q * u) * m := by
  rw [Nat.mul_assoc, e, Nat.mul_add, Nat.mul_add, h, Nat.add_mul, Nat.add_mul, Nat.mul_assoc, Nat.mul_assoc]
  omega
theorem mont_sum {A B c c1 c2 P x y u m F F' : Nat} (h1 : A + P * c1 = B + x * y) (h2 : F + P * c2 = A + u * m) (hF : F = M * F') : M * F' + P * (c1 + c2 + c) = (B + P * c) + x * y + u * m := by
  rw [Nat.mul_add, Nat.mul_add]
  omega
theorem mont_top {T P M' F' : Nat} : M' * F' + P * M' * (T % M') + P * M' * (M' * (T / M')) = M' * F' + P * M' * T := by
  rw [Nat.add_assoc, ← Nat.mul_add, Nat.mod_add_div]
theorem mont_top2 {T P M' F' : Nat} : M' * (F' + P * (T % M') + P * M' * (T / M')) = M' * F' + P * M' * T := by
  rw [← mont_top, Nat.mul_add, Nat.mul_add]
  congr 1
  · congr 1
    rw [← Nat.mul_assoc, Nat.mul_comm M' P]
  · rw [← Nat.mul_assoc, ← Nat.mul_assoc, ← Nat.mul_assoc, Nat.mul_comm M' P]

/-- One round: what lies from the k-th limb on, before and after. -/
theorem mont_round {f f1 f2 : Nat → Nat} {L k c c1 c2 x u X y m q : Nat} (hf2 : ∀ j, f2 j < M)
    (h : M ^ k * (sm f k (L + 1) + M ^ (L + 1) * c) = X * y + q * m)
    (h1 : sm f1 k (L + 1) + M ^ (L + 1) * c1 = sm f k (L + 1) + x * y) (h2 : sm f2 k (L + 1) + M ^ (L + 1) * c2 = sm f1 k (L + 1) + u * m)
    (hz : f2 k = 0) :
    M ^ (k + 1) * (sm (upd f2 (k + (L + 1)) ((c1 + c2 + c) % M)) (k + 1) (L + 1) + M ^ (L + 1) * ((c1 + c2 + c) / M)) = (X + M ^ k * x) * y + (q + M ^ k * u) * m := by
  have hF := sm_low f2 k L
  rw [hz, Nat.zero_add] at hF
  have hs := mont_sum (c := c) h1 h2 hF
  rw [show k + (L + 1) = (k + 1) + L by omega, sm_upd_last]
  rw [Nat.pow_succ]
  refine mont_alg (P := 0) h ?_
  rw [Nat.pow_succ] at hs ⊢
  rw [← hs]
  exact mont_top2

/-- Why the lowest limb is nought. -/
theorem mont_low {f1 f2 : Nat → Nat} {L k c2 u m n : Nat} (hf1 : ∀ j, f1 j < M) (hf2 : ∀ j, f2 j < M)
    (h2 : sm f2 k (L + 1) + M ^ (L + 1) * c2 = sm f1 k (L + 1) + u * m) (hm : m % M = n) (hu : (f1 k + u * n) % M = 0) : f2 k = 0 := by
  have e : (sm f2 k (L + 1) + M ^ (L + 1) * c2) % M = (sm f1 k (L + 1) + u * m) % M := by rw [h2]
  rw [Nat.pow_succ, Nat.mul_comm _ M, Nat.mul_assoc, Nat.add_mul_mod_self_left, low_is hf2, Nat.add_mod, low_is hf1, Nat.mul_mod u m, hm] at e
  rw [e, Nat.mod_mul_mod, Nat.add_mod_mod, hu]

theorem mont_bound {R V X y m q : Nat} (hR : 0 < R) (h : R * V = X * y + q * m) (hX : X < R) (hq : q < R) (hy : 0 < y + m) : V < y + m := by
  have h1 : X * y + y ≤ R * y := by rw [← Nat.succ_mul]; exact Nat.mul_le_mul_right _ hX
  have h2 : q * m + m ≤ R * m := by rw [← Nat.succ_mul]; exact Nat.mul_le_mul_right _ hq
  have h3 : R * V < R * (y + m) := by rw [Nat.mul_add]; omega
  exact Nat.lt_of_mul_lt_mul_left h3

/-- What is left when the odd number was taken off. -/
theorem mont_off {R S m y S' b : Nat} (hb : b ≤ 1) (h : S + R * 1 < y + m) (hy : y < R) (e : S' + m = S + R * b) (hS' : S' < R) : S' + m = S + R * 1 := by
  rcases Nat.lt_or_ge b 1 with hb1 | hb1
  · have : b = 0 := by omega
    subst this
    rw [Nat.mul_zero] at e
    omega
  · have : b = 1 := by omega
    subst this
    exact e
theorem mont_left {R V X y m q S : Nat} (h : R * V = X * y + q * m) (e : S = V ∨ S + m = V) : S * R % m = X * y % m := by
  have h1 : V * R % m = X * y % m := by rw [Nat.mul_comm, h, Nat.add_mul_mod_self_right]
  rcases e with rfl | e
  · exact h1
  · rw [← h1, ← e, Nat.add_mul, Nat.mul_comm m R, Nat.add_mul_mod_self_right]

theorem q_next {q k u : Nat} (hq : q < M ^ k) (hu : u < M) : q + M ^ k * u < M ^ (k + 1) := by
  have h : M ^ k * (u + 1) ≤ M ^ k * M := Nat.mul_le_mul_left _ hu
  rw [Nat.mul_add, Nat.mul_one] at h
  rw [Nat.pow_succ]
  omega

/-- Of an odd number: what is as much times a power of 2^64 is as much. -/
theorem odd_unit {m : Nat} (h : m % 2 = 1) (L : Nat) : ∃ r, M ^ L * r % m = 1 % m := by
  refine ⟨((m + 1) / 2) ^ (64 * L), ?_⟩
  rw [M_pow, ← Nat.mul_pow, show 2 * ((m + 1) / 2) = m + 1 by omega, Nat.pow_mod, Nat.add_mod_left, ← Nat.pow_mod, Nat.one_pow]
theorem odd_cancel {m a b : Nat} (h : m % 2 = 1) (L : Nat) (e : a * M ^ L % m = b * M ^ L % m) : a % m = b % m := by
  obtain ⟨r, hr⟩ := odd_unit h L
  have k : ∀ x, x * M ^ L * r % m = x % m := fun x => by rw [Nat.mul_assoc, Nat.mul_mod, hr, ← Nat.mul_mod, Nat.mul_one]
  rw [← k a, ← k b, Nat.mul_mod, e, ← Nat.mul_mod]

/-- A product of lifted numbers is lifted. -/
theorem mont_up {m a k l L x y r : Nat} (h : m % 2 = 1) (hx : x % m = pm a k m * M ^ L % m) (hy : y % m = pm a l m * M ^ L % m) (hr : r * M ^ L % m = x * y % m) : r % m = pm a (k + l) m * M ^ L % m := by
  apply odd_cancel h L
  rw [hr, Nat.mul_mod, hx, hy, ← Nat.mul_mod, pm_add, Nat.mul_assoc _ (M ^ L) (M ^ L), Nat.mod_mul_mod]
  congr 1
  rw [Nat.mul_assoc, Nat.mul_assoc, Nat.mul_left_comm (M ^ L)]
/-- Times 1 it is not lifted any more. -/
theorem mont_down {m a k L x r : Nat} (h : m % 2 = 1) (hx : x % m = pm a k m * M ^ L % m) (hr : r * M ^ L % m = x * 1 % m) : r % m = pm a k m := by
  rw [← pm_self a k m]
  apply odd_cancel h L
  rw [hr, Nat.mul_one, hx]

/-! An odd limb's inverse -/
theorem two_dvd {p q : Nat} (h : p ≤ q) : (2 : Int) ^ p ∣ 2 ^ q := ⟨2 ^ (q - p), by rw [← Int.pow_add]; congr 1; omega⟩
theorem newton {a n : Int} {p q : Nat} (h : (2 : Int) ^ p ∣ a * n - 1) (hq : q ≤ 2 * p) (hq64 : q ≤ 64) : (2 : Int) ^ q ∣ a * (n * ((2 - a * n % 18446744073709551616) % 18446744073709551616) % 18446744073709551616) - 1 := by
  have d64 : (2 : Int) ^ q ∣ 18446744073709551616 := by
    rw [show (18446744073709551616 : Int) = 2 ^ 64 by decide]
    exact two_dvd hq64
  have d2 : (2 : Int) ^ q ∣ (a * n - 1) * (a * n - 1) := by
    refine Int.dvd_trans (two_dvd hq) ?_
    rw [Nat.two_mul, Int.pow_add]
    exact Int.mul_dvd_mul h h
  have e1 : ∀ z : Int, ∃ t, z % 18446744073709551616 = z - 18446744073709551616 * t := fun z => ⟨z / 18446744073709551616, Int.emod_def _ _⟩
  obtain ⟨t1, h1⟩ := e1 (a * n)
  rw [h1]
  obtain ⟨t2, h2⟩ := e1 (2 - (a * n - 18446744073709551616 * t1))
  rw [h2]
  obtain ⟨t3, h3⟩ := e1 (n * (2 - (a * n - 18446744073709551616 * t1) - 18446744073709551616 * t2))
  rw [h3]
  have e : a * (n * (2 - (a * n - 18446744073709551616 * t1) - 18446744073709551616 * t2) - 18446744073709551616 * t3) - 1 = 18446744073709551616 * (a * (n * (t1 - t2) - t3)) - (a * n - 1) * (a * n - 1) := by
    grind
  rw [e]
  exact Int.dvd_sub (Int.dvd_trans d64 (Int.dvd_mul_right _ _)) d2

def nbit (k : Nat) : Nat := if k = 5 then 64 else 3 * 2 ^ k
theorem nbit_next {k : Nat} (h : k < 5) : nbit (k + 1) ≤ 2 * nbit k ∧ nbit (k + 1) ≤ 64 := by
  have : k = 0 ∨ k = 1 ∨ k = 2 ∨ k = 3 ∨ k = 4 := by omega
  rcases this with rfl | rfl | rfl | rfl | rfl <;> decide
theorem newton_start {a : Nat} (h : a % 2 = 1) : (2 : Int) ^ nbit 0 ∣ (a : Int) * (a : Int) - 1 := by
  have e : (2 : Int) ^ nbit 0 = 8 := by decide
  rw [e]
  obtain ⟨q, r, hq, hr⟩ : ∃ q r, a = 8 * q + r ∧ (r = 1 ∨ r = 3 ∨ r = 5 ∨ r = 7) := ⟨a / 8, a % 8, by omega, by omega⟩
  have e2 : (a : Int) * a = 8 * (8 * q * q + 2 * q * r) + r * r := by
    rw [hq]
    push_cast
    grind
  rw [e2]
  refine (Int.dvd_iff_emod_eq_zero).2 ?_
  rcases hr with rfl | rfl | rfl | rfl <;> omega
theorem newton_end {a n : Nat} (h : (2 : Int) ^ nbit 5 ∣ (a : Int) * (n : Int) - 1) : a * n % M = 1 := by
  have e : (2 : Int) ^ nbit 5 = 18446744073709551616 := by decide
  rw [e] at h
  unfold M
  have h2 : ((a * n : Nat) : Int) = (a : Int) * n := Int.natCast_mul a n
  omega

/-- The multiple of an odd number that makes a limb nought. -/
def mulU (s i : Nat) : Nat := ((M - s) % M) * i % M
theorem mulU_lt (s i : Nat) : mulU s i < M := Nat.mod_lt _ M_pos
theorem mulU_low {s i n : Nat} (hs : s < M) (h : n * i % M = 1) : (s + mulU s i * n) % M = 0 := by
  unfold mulU
  rw [Nat.add_mod, Nat.mod_mul_mod, Nat.mul_assoc, Nat.mul_comm i n, Nat.mul_mod, h, Nat.mul_one, Nat.mod_mod, Nat.mod_mod, ← Nat.add_mod]
  unfold M at *
  omega

end Go.Proofs.Ytmbdidompjgaaaa.Num
