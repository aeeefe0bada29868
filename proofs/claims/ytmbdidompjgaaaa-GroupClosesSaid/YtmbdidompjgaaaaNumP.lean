/- Plain arithmetic: Fermat's little theorem, of a number with one number whose powers are all others; six primes are checked. No condition but those that each theorem names. -/
import Derived.Test.YtmbdidompjgaaaaNumM
namespace Go.Proofs.Ytmbdidompjgaaaa.Num
set_option linter.unusedVariables false

/-! Of as many numbers as there are, each is met -/
theorem no_more : ∀ (n : Nat) (f : Nat → Nat), (∀ i, i < n + 1 → f i < n) → ∃ i j, i < j ∧ j < n + 1 ∧ f i = f j := by
  intro n
  induction n with
  | zero => intro f h; exact absurd (h 0 (by omega)) (by omega)
  | succ n ih =>
    intro f h
    by_cases hx : ∃ i, i < n + 1 ∧ f i = f (n + 1)
    · obtain ⟨i, hi, e⟩ := hx
      exact ⟨i, n + 1, hi, by omega, e⟩
    · have hne : ∀ i, i < n + 1 → f i ≠ f (n + 1) := fun i hi e => hx ⟨i, hi, e⟩
      obtain ⟨i, j, hij, hj, e⟩ := ih (fun i => if f i < f (n + 1) then f i else f i - 1) (by
        intro i hi
        have h1 := h i (by omega)
        have h2 := h (n + 1) (by omega)
        have h3 := hne i hi
        show (if f i < f (n + 1) then f i else f i - 1) < n
        split <;> omega)
      have h1 := hne i (by omega)
      have h2 := hne j hj
      refine ⟨i, j, hij, by omega, ?_⟩
      split at e <;> split at e <;> omega

theorem met {n : Nat} {f : Nat → Nat} (h : ∀ i, i < n → f i < n) (hinj : ∀ i j, i < j → j < n → f i ≠ f j) {y : Nat} (hy : y < n) : ∃ i, i < n ∧ f i = y := by
  apply Classical.byContradiction
  intro hno
  obtain ⟨i, j, hij, hj, e⟩ := no_more n (fun i => if i < n then f i else y) (by
    intro i hi
    show (if i < n then f i else y) < n
    split
    · exact h i (by assumption)
    · exact hy)
  rw [if_pos (show i < n by omega)] at e
  by_cases hjn : j < n
  · rw [if_pos hjn] at e
    exact hinj i j hij hjn e
  · rw [if_neg hjn] at e
    exact hno ⟨i, by omega, e⟩

/-! Fermat, of a number p that has a number g whose powers up to p - 1 are all others' -/

/-- Powers that leave 1 do so at the greatest common divisor. -/
theorem one_gcd {g p : Nat} (hp : 1 < p) : ∀ (m n : Nat), g ^ m % p = 1 → g ^ n % p = 1 → g ^ Nat.gcd m n % p = 1 := by
  intro m n
  induction m, n using Nat.gcd.induction with
  | H0 n => intro _ h; rwa [Nat.gcd_zero_left]
  | H1 m n hm ih =>
    intro h1 h2
    rw [Nat.gcd_rec]
    refine ih ?_ h1
    have e : n = n % m + m * (n / m) := (Nat.mod_add_div n m).symm
    rw [e, Nat.pow_add, Nat.mul_mod, Nat.pow_mul, Nat.pow_mod (g ^ m), h1, Nat.one_pow, Nat.mod_eq_of_lt hp, Nat.mul_one, Nat.mod_mod] at h2
    exact h2

/-- c is 1, or one of the numbers l, whose product is n, divides it. -/
theorem some_divides : ∀ (l : List Nat) (c : Nat), (∀ q ∈ l, ∀ d, d ∣ q → d = 1 ∨ d = q) → c ∣ l.foldr (· * ·) 1 → c = 1 ∨ ∃ q ∈ l, q ∣ c := by
  intro l c hl hc
  by_cases h : ∃ q ∈ l, q ∣ c
  · exact .inr h
  · refine .inl ?_
    have hco : ∀ l' : List Nat, (∀ q ∈ l', q ∈ l) → Nat.Coprime c (l'.foldr (· * ·) 1) := by
      intro l'
      induction l' with
      | nil => intro _; exact Nat.coprime_one_right c
      | cons q l' ih =>
        intro hq
        refine Nat.Coprime.mul_right ?_ (ih fun x hx => hq x (List.mem_cons_of_mem _ hx))
        have hq1 := hq q (List.mem_cons_self ..)
        rcases hl q hq1 (Nat.gcd c q) (Nat.gcd_dvd_right c q) with e | e
        · exact e
        · exact absurd ⟨q, hq1, by rw [← e]; exact Nat.gcd_dvd_left c q⟩ h
    exact Nat.Coprime.eq_one_of_dvd (hco l fun q hq => hq) hc

theorem gen_order {g p : Nat} (hp : 1 < p) (l : List Nat) (hl : ∀ q ∈ l, ∀ d, d ∣ q → d = 1 ∨ d = q) (hn : l.foldr (· * ·) 1 = p - 1) (h1 : g ^ (p - 1) % p = 1)
    (hq : ∀ q ∈ l, g ^ ((p - 1) / q) % p ≠ 1) {k : Nat} (hk : 0 < k) (hkp : k < p - 1) : g ^ k % p ≠ 1 := by
  intro hk1
  have hg := one_gcd hp k (p - 1) hk1 h1
  obtain ⟨c, hc⟩ := Nat.gcd_dvd_right k (p - 1)
  have hd : Nat.gcd k (p - 1) ≤ k := Nat.gcd_le_left _ hk
  generalize Nat.gcd k (p - 1) = D at *
  have hc1 : c ≠ 1 := by rintro rfl; rw [Nat.mul_one] at hc; omega
  rcases some_divides l c hl ⟨D, by rw [hn, Nat.mul_comm]; exact hc⟩ with e | ⟨q, hql, ⟨c', rfl⟩⟩
  · exact hc1 e
  · have hq0 : 0 < q := by
      rcases Nat.eq_zero_or_pos q with rfl | h
      · rw [Nat.zero_mul, Nat.mul_zero] at hc; omega
      · exact h
    refine hq q hql ?_
    have e : (p - 1) / q = D * c' := by
      rw [hc, Nat.mul_left_comm, Nat.mul_div_cancel_left _ hq0]
    rw [e, Nat.pow_mul, Nat.pow_mod, hg, Nat.one_pow, Nat.mod_eq_of_lt hp]

theorem fermat_of {g p : Nat} (hp : 1 < p) (h1 : g ^ (p - 1) % p = 1) (ho : ∀ k, 0 < k → k < p - 1 → g ^ k % p ≠ 1) {a : Nat} (ha : a % p ≠ 0) : a ^ (p - 1) % p = 1 := by
  have hne : ∀ i, i < p - 1 → g ^ i % p ≠ 0 := by
    intro i hi h
    have e : p - 1 = i + (p - 1 - i) := by omega
    rw [e, Nat.pow_add, Nat.mul_mod, h, Nat.zero_mul, Nat.zero_mod] at h1
    omega
  have hlt : ∀ i, g ^ i % p < p := fun i => Nat.mod_lt _ (by omega)
  have ham := Nat.mod_lt a (show 0 < p by omega)
  obtain ⟨i, hi, e⟩ := met (n := p - 1) (f := fun i => g ^ i % p - 1) (y := a % p - 1)
    (by intro i hi; have := hne i hi; have := hlt i; show g ^ i % p - 1 < p - 1; omega)
    (by
      intro i j hij hj
      show g ^ i % p - 1 ≠ g ^ j % p - 1
      intro e
      have h3 := hne i (by omega)
      have h4 := hne j hj
      have e2 : g ^ i % p = g ^ j % p := by omega
      refine ho (i + (p - 1 - j)) (by omega) (by omega) ?_
      rw [Nat.pow_add, Nat.mul_mod, e2, ← Nat.mul_mod, ← Nat.pow_add, show j + (p - 1 - j) = p - 1 by omega, h1])
    (by omega)
  have h3 := hne i hi
  have e2 : g ^ i % p = a % p := by
    have e' : g ^ i % p - 1 = a % p - 1 := e
    omega
  rw [Nat.pow_mod, ← e2, ← Nat.pow_mod, ← Nat.pow_mul, Nat.mul_comm, Nat.pow_mul, Nat.pow_mod, h1, Nat.one_pow, Nat.mod_eq_of_lt hp]

/-- A power, worked out. -/
def sq (a m r : Nat) (odd : Bool) : Nat := if odd then r * r % m * a % m else r * r % m
def pg (a m : Nat) : Nat → Nat → Nat
  | 0, _ => 1 % m
  | f + 1, e => sq a m (pg a m f (e / 2)) (e % 2 == 1)
theorem pg_is (a m : Nat) : ∀ f e, e < 2 ^ f → pg a m f e = a ^ e % m := by
  intro f
  induction f with
  | zero => intro e he; rw [Nat.pow_zero] at he; have : e = 0 := by omega
            subst this; rfl
  | succ f ih =>
    intro e he
    have h2 := ih (e / 2) (by rw [Nat.pow_succ] at he; omega)
    show sq a m (pg a m f (e / 2)) (e % 2 == 1) = _
    rw [h2]
    unfold sq
    rcases (show e % 2 = 1 ∨ e % 2 = 0 by omega) with h | h
    · rw [h]
      have e1 : e = e / 2 + e / 2 + 1 := by omega
      have e3 : a ^ e = a ^ (e / 2) * a ^ (e / 2) * a := by
        conv => lhs; rw [e1]
        rw [Nat.pow_add, Nat.pow_add, Nat.pow_one]
      rw [e3]
      show (a ^ (e / 2) % m * (a ^ (e / 2) % m) % m * a) % m = _
      rw [← Nat.mul_mod, Nat.mod_mul_mod]
    · rw [h]
      have e1 : e = e / 2 + e / 2 := by omega
      have e3 : a ^ e = a ^ (e / 2) * a ^ (e / 2) := by
        conv => lhs; rw [e1]
        rw [Nat.pow_add]
      rw [e3]
      show (a ^ (e / 2) % m * (a ^ (e / 2) % m)) % m = _
      rw [← Nat.mul_mod]

def undivided (q : Nat) : Bool := decide (0 < q) && (List.range q).all (fun d => decide (d < 2) || q % d != 0)
theorem undivided_is {q : Nat} (h : undivided q = true) : ∀ d, d ∣ q → d = 1 ∨ d = q := by
  intro d hd
  unfold undivided at h
  rw [Bool.and_eq_true, decide_eq_true_iff] at h
  obtain ⟨h0, hall⟩ := h
  have hle := Nat.le_of_dvd h0 hd
  rcases Nat.lt_or_ge d q with hlt | hge
  · have h1 := List.all_eq_true.1 hall d (List.mem_range.2 hlt)
    have hm : q % d = 0 := Nat.mod_eq_zero_of_dvd hd
    rw [hm] at h1
    have h2 : d < 2 := by simpa using h1
    have h3 : 0 < d := Nat.pos_of_dvd_of_pos hd h0
    exact .inl (by omega)
  · exact .inr (by omega)

/-- What is checked of a prime, one number and its order's divisors. -/
def certs (p g : Nat) (l : List Nat) : Bool :=
  decide (1 < p) && decide (p < 2 ^ 64) && l.all undivided && decide (l.foldr (· * ·) 1 = p - 1) && decide (pg g p 64 (p - 1) = 1) && l.all (fun q => decide (pg g p 64 ((p - 1) / q) ≠ 1))
theorem fermat {p g : Nat} {l : List Nat} (h : certs p g l = true) {a : Nat} (ha : a % p ≠ 0) : a ^ (p - 1) % p = 1 := by
  unfold certs at h
  simp only [Bool.and_eq_true, decide_eq_true_iff] at h
  obtain ⟨⟨⟨⟨⟨hp, h64⟩, hnd⟩, hn⟩, h1⟩, hq⟩ := h
  have e1 := pg_is g p 64 (p - 1) (by omega)
  rw [e1] at h1
  refine fermat_of hp h1 (fun k hk hkp => gen_order hp l (fun q hq' => undivided_is (List.all_eq_true.1 hnd q hq')) hn h1 (fun q hq' => ?_) hk hkp) ha
  have h2 := List.all_eq_true.1 hq q hq'
  rw [decide_eq_true_iff] at h2
  rwa [pg_is g p 64 _ (Nat.lt_of_le_of_lt (Nat.div_le_self _ _) (by omega))] at h2

def Fermats (p : Nat) : Prop := 1 < p ∧ p < M ∧ ∀ a, a % p ≠ 0 → pm a (p - 1) p = 1
theorem fermats {p g : Nat} {l : List Nat} (h : certs p g l = true) : Fermats p := by
  have h' := h
  unfold certs at h'
  simp only [Bool.and_eq_true, decide_eq_true_iff] at h'
  obtain ⟨⟨⟨⟨⟨hp, h64⟩, _⟩, _⟩, _⟩, _⟩ := h'
  refine ⟨hp, by rw [M_two]; exact h64, fun a ha => ?_⟩
  rw [pm_is]
  exact fermat h ha
theorem cert_2 : certs 2 1 [] = true := by decide +kernel
theorem cert_3 : certs 3 2 [2] = true := by decide +kernel
theorem cert_23 : certs 23 5 [2, 11] = true := by decide +kernel
theorem cert_2039 : certs 2039 7 [2, 1019] = true := by decide +kernel
theorem cert_65537 : certs 65537 3 (List.replicate 16 2) = true := by decide +kernel
theorem cert_61 : certs 2305843009213693951 37 [2, 3, 3, 5, 5, 7, 11, 13, 31, 41, 61, 151, 331, 1321] = true := by decide +kernel

theorem fermats_all {p : Nat} (h : p = 2 ∨ p = 3 ∨ p = 23 ∨ p = 2039 ∨ p = 65537 ∨ p = 2305843009213693951) : Fermats p := by
  rcases h with rfl | rfl | rfl | rfl | rfl | rfl
  · exact fermats cert_2
  · exact fermats cert_3
  · exact fermats cert_23
  · exact fermats cert_2039
  · exact fermats cert_65537
  · exact fermats cert_61

end Go.Proofs.Ytmbdidompjgaaaa.Num

