/- A number is prime, if a sequence by it says so (chk_ok): elliptic divisibility sequences in whole numbers, in plain arithmetic: their relation (eds), where they are nought of a prime (rank_dvd, rank_le), a step of a certificate (step), and how it is checked (chk). No condition but those that each theorem names. -/
import Derived.Test.YtilbkfgbbajelaaNumA
namespace Go.Proofs.Ytilbkfgbbajelaa.Eds
open Num (no_more met)
set_option linter.unusedVariables false

/-- The sequence with W(2) taken out of the even terms; q is W(2) to the fourth. -/
def V (q c d : Int) (n : Nat) : Int :=
  if h : n < 5 then (if n = 0 then 0 else if n = 1 then 1 else if n = 2 then 1 else if n = 3 then c else d)
  else
    if n % 2 = 0 then V q c d (n / 2) * (V q c d (n / 2 + 2) * V q c d (n / 2 - 1) ^ 2 - V q c d (n / 2 - 2) * V q c d (n / 2 + 1) ^ 2)
    else if n / 2 % 2 = 0 then q * (V q c d (n / 2 + 2) * V q c d (n / 2) ^ 3) - V q c d (n / 2 - 1) * V q c d (n / 2 + 1) ^ 3
    else V q c d (n / 2 + 2) * V q c d (n / 2) ^ 3 - q * (V q c d (n / 2 - 1) * V q c d (n / 2 + 1) ^ 3)
termination_by n
decreasing_by all_goals omega

theorem V_0 (q c d : Int) : V q c d 0 = 0 := by rw [V]; rfl
theorem V_1 (q c d : Int) : V q c d 1 = 1 := by rw [V]; rfl
theorem V_2 (q c d : Int) : V q c d 2 = 1 := by rw [V]; rfl
theorem V_3 (q c d : Int) : V q c d 3 = c := by rw [V]; rfl
theorem V_4 (q c d : Int) : V q c d 4 = d := by rw [V]; rfl
/-- Even terms, with j for the half less 2. -/
theorem V_even (q c d : Int) (j : Nat) (hj : 1 ≤ j) : V q c d (2 * j + 4) = V q c d (j + 2) * (V q c d (j + 4) * V q c d (j + 1) ^ 2 - V q c d j * V q c d (j + 3) ^ 2) := by
  rw [V, dif_neg (by omega), if_pos (by omega), show (2 * j + 4) / 2 = j + 2 by omega]
  simp only [Nat.add_sub_cancel, show j + 2 + 2 = j + 4 by omega, show j + 2 - 1 = j + 1 by omega, show j + 2 + 1 = j + 3 by omega]
theorem V_odd0 (q c d : Int) (j : Nat) (hj : 1 ≤ j) (hp : (j + 1) % 2 = 0) : V q c d (2 * j + 3) = q * (V q c d (j + 3) * V q c d (j + 1) ^ 3) - V q c d j * V q c d (j + 2) ^ 3 := by
  rw [V, dif_neg (by omega), if_neg (by omega), show (2 * j + 3) / 2 = j + 1 by omega, if_pos hp]
  simp only [Nat.add_sub_cancel, show j + 1 + 2 = j + 3 by omega, show j + 1 + 1 = j + 2 by omega]
theorem V_odd1 (q c d : Int) (j : Nat) (hj : 1 ≤ j) (hp : (j + 1) % 2 ≠ 0) : V q c d (2 * j + 3) = V q c d (j + 3) * V q c d (j + 1) ^ 3 - q * (V q c d j * V q c d (j + 2) ^ 3) := by
  rw [V, dif_neg (by omega), if_neg (by omega), show (2 * j + 3) / 2 = j + 1 by omega, if_neg hp]
  simp only [Nat.add_sub_cancel, show j + 1 + 2 = j + 3 by omega, show j + 1 + 1 = j + 2 by omega]

/-- The elliptic divisibility sequence of b, c and b d. -/
def W (b c d : Int) (n : Nat) : Int := if n % 2 = 0 then b * V (b ^ 4) c d n else V (b ^ 4) c d n
theorem W_ev (b c d : Int) {n : Nat} (h : n % 2 = 0) : W b c d n = b * V (b ^ 4) c d n := by unfold W; rw [if_pos h]
theorem W_od (b c d : Int) {n : Nat} (h : n % 2 ≠ 0) : W b c d n = V (b ^ 4) c d n := by unfold W; rw [if_neg h]
theorem W_0 (b c d : Int) : W b c d 0 = 0 := by rw [W_ev b c d rfl, V_0, Int.mul_zero]
theorem W_1 (b c d : Int) : W b c d 1 = 1 := by rw [W_od b c d (by decide), V_1]
theorem W_2 (b c d : Int) : W b c d 2 = b := by rw [W_ev b c d rfl, V_2, Int.mul_one]
theorem W_3 (b c d : Int) : W b c d 3 = c := by rw [W_od b c d (by decide), V_3]
theorem W_4 (b c d : Int) : W b c d 4 = b * d := by rw [W_ev b c d rfl, V_4]

theorem W_odd (b c d : Int) (j : Nat) : W b c d (2 * j + 3) = W b c d (j + 3) * W b c d (j + 1) ^ 3 - W b c d j * W b c d (j + 2) ^ 3 := by
  rcases Nat.eq_zero_or_pos j with rfl | hj
  · rw [W_0, W_3, W_1]; grind
  rw [W_od b c d (by omega)]
  by_cases hp : j % 2 = 0
  · rw [V_odd1 _ _ _ j hj (by omega), W_od b c d (n := j + 3) (by omega), W_od b c d (n := j + 1) (by omega), W_ev b c d (n := j) (by omega), W_ev b c d (n := j + 2) (by omega)]
    grind
  · rw [V_odd0 _ _ _ j hj (by omega), W_ev b c d (n := j + 3) (by omega), W_ev b c d (n := j + 1) (by omega), W_od b c d (n := j) (by omega), W_od b c d (n := j + 2) (by omega)]
    grind
theorem W_even (b c d : Int) (j : Nat) : b * W b c d (2 * j + 4) = W b c d (j + 2) * (W b c d (j + 4) * W b c d (j + 1) ^ 2 - W b c d j * W b c d (j + 3) ^ 2) := by
  rcases Nat.eq_zero_or_pos j with rfl | hj
  · rw [W_0, W_3, W_1, W_4, W_2]; grind
  rw [W_ev b c d (n := 2 * j + 4) (by omega)]
  rw [V_even _ _ _ j hj]
  by_cases hp : j % 2 = 0
  · rw [W_od b c d (n := j + 3) (by omega), W_od b c d (n := j + 1) (by omega), W_ev b c d (n := j) (by omega), W_ev b c d (n := j + 2) (by omega), W_ev b c d (n := j + 4) (by omega)]
    grind
  · rw [W_ev b c d (n := j + 3) (by omega), W_ev b c d (n := j + 1) (by omega), W_od b c d (n := j) (by omega), W_od b c d (n := j + 2) (by omega), W_od b c d (n := j + 4) (by omega)]
    grind

/-- The relation of four terms, with n = j + 1 and m = n + e. -/
def D (w : Nat → Int) (j e : Nat) : Prop := w (2 * j + 2 + e) * w e = w (j + e + 2) * w (j + e) * w (j + 1) ^ 2 - w (j + 2) * w j * w (j + e + 1) ^ 2

theorem cancel {a x y : Int} (ha : a ≠ 0) (h : a * x = a * y) : x = y := Int.eq_of_mul_eq_mul_left ha h

/-- One step along: from two relations the next one of three terms on either side. -/
theorem J_step {b c K o p q r s t : Int} (hp : p ≠ 0) (h1 : c * (s * p ^ 2 + o * r ^ 2) = K * r * q * p - c * b ^ 2 * q ^ 3) (h2 : s * o = b ^ 2 * r * p - c * q ^ 2) (h3 : t * p = b ^ 2 * s * q - c * r ^ 2) :
    c * (t * q ^ 2 + p * s ^ 2) = K * s * r * q - c * b ^ 2 * r ^ 3 := by
  refine cancel hp ?_
  grind
theorem F_id (b c K p q r s t P Q R S T : Int) :
    c * ((t * r * R ^ 2 - S * Q * s ^ 2) * (r * p * R ^ 2 - S * Q * q ^ 2)) - c * ((s * q * S ^ 2 - T * R * r ^ 2) * (s * q * Q ^ 2 - R * P * r ^ 2)) =
      r ^ 2 * R ^ 4 * c * (t * p - (b ^ 2 * s * q - c * r ^ 2)) - S * Q * r * R ^ 2 * (c * (t * q ^ 2 + p * s ^ 2) - (K * s * r * q - c * b ^ 2 * r ^ 3))
      + s * q * R * r ^ 2 * (c * (T * Q ^ 2 + P * S ^ 2) - (K * S * R * Q - c * b ^ 2 * R ^ 3)) - c * R ^ 2 * r ^ 4 * (T * P - (b ^ 2 * S * Q - c * R ^ 2)) := by
  grind
theorem F_rel {b c K p q r s t P Q R S T : Int} (hc : c ≠ 0)
    (hs : t * p = b ^ 2 * s * q - c * r ^ 2) (hS : T * P = b ^ 2 * S * Q - c * R ^ 2)
    (hj : c * (t * q ^ 2 + p * s ^ 2) = K * s * r * q - c * b ^ 2 * r ^ 3) (hJ : c * (T * Q ^ 2 + P * S ^ 2) = K * S * R * Q - c * b ^ 2 * R ^ 3) :
    (t * r * R ^ 2 - S * Q * s ^ 2) * (r * p * R ^ 2 - S * Q * q ^ 2) = (s * q * S ^ 2 - T * R * r ^ 2) * (s * q * Q ^ 2 - R * P * r ^ 2) := by
  refine cancel hc ?_
  have h := F_id b c K p q r s t P Q R S T
  rw [hs, hS, hj, hJ, Int.sub_self, Int.sub_self, Int.sub_self, Int.sub_self, Int.mul_zero, Int.mul_zero, Int.mul_zero, Int.mul_zero] at h
  omega

theorem J_all {b c d : Int} (hc : c ≠ 0) {t : Nat} (hz : ∀ n, 0 < n → n < t → W b c d n ≠ 0) (hD : ∀ i, i + 4 < t → D (W b c d) 1 i) :
    ∀ i, i + 4 < t → c * (W b c d (i + 4) * W b c d (i + 1) ^ 2 + W b c d i * W b c d (i + 3) ^ 2) = (d + b ^ 4) * W b c d (i + 3) * W b c d (i + 2) * W b c d (i + 1) - c * b ^ 2 * W b c d (i + 2) ^ 3
  | 0, _ => by
    rw [W_0, W_1, W_2, W_3, W_4]
    grind
  | i + 1, h => by
    have h1 := J_all hc hz hD i (by omega)
    have h2 : W b c d (i + 4) * W b c d i = b ^ 2 * W b c d (i + 3) * W b c d (i + 1) - c * W b c d (i + 2) ^ 2 := by
      have k := hD i (by omega)
      unfold D at k
      rw [show 2 * 1 + 2 + i = i + 4 by omega, show 1 + i + 2 = i + 3 by omega, show 1 + i = i + 1 by omega, show 1 + 1 = 2 from rfl, show 1 + 2 = 3 from rfl, W_1, W_2, W_3] at k
      rw [k]
      grind
    have h3 : W b c d (i + 5) * W b c d (i + 1) = b ^ 2 * W b c d (i + 4) * W b c d (i + 2) - c * W b c d (i + 3) ^ 2 := by
      have k := hD (i + 1) (by omega)
      unfold D at k
      rw [show 2 * 1 + 2 + (i + 1) = i + 5 by omega, show 1 + (i + 1) + 2 = i + 4 by omega, show 1 + (i + 1) = i + 2 by omega, show 1 + 1 = 2 from rfl, show 1 + 2 = 3 from rfl, W_1, W_2, W_3] at k
      rw [k]
      grind
    exact J_step (o := W b c d i) (hz (i + 1) (by omega) (by omega)) h1 h2 h3

theorem eds {b c d : Int} {t : Nat} (hc : c ≠ 0) (hz : ∀ n, 0 < n → n < t → W b c d n ≠ 0) : ∀ s, s < t → ∀ e j, 2 * j + 2 + e ≤ s → D (W b c d) j e := by
  intro s
  induction s with
  | zero => intro _ e j h; omega
  | succ s ih =>
    intro hst e
    replace ih := ih (by omega)
    have hS : ∀ i, i + 4 ≤ s → W b c d (i + 4) * W b c d i = b ^ 2 * W b c d (i + 3) * W b c d (i + 1) - c * W b c d (i + 2) ^ 2 := by
      intro i hi
      have k := ih i 1 (by omega)
      unfold D at k
      rw [show 2 * 1 + 2 + i = i + 4 by omega, show 1 + i + 2 = i + 3 by omega, show 1 + i = i + 1 by omega, show 1 + 1 = 2 from rfl, show 1 + 2 = 3 from rfl, W_1, W_2, W_3] at k
      rw [k]
      grind
    have hJ := J_all (t := s + 1) hc (fun n h0 h1 => hz n h0 (by omega)) (fun i hi => ih i 1 (by omega))
    induction e using Nat.strongRecOn with
    | ind e ihe =>
      intro j hj
      rcases Nat.lt_or_ge (2 * j + 2 + e) (s + 1) with hlt | hge
      · exact ih e j (by omega)
      rcases e with _ | _ | e
      · unfold D
        rw [W_0]
        grind
      · unfold D
        rw [W_1, show 2 * j + 2 + (0 + 1) = 2 * j + 3 by omega, W_odd, show j + (0 + 1) + 2 = j + 3 by omega, show j + (0 + 1) + 1 = j + 2 by omega, show j + (0 + 1) = j + 1 by omega]
        grind
      · rcases j with _ | i
        · unfold D
          rw [W_0, W_1, show 2 * 0 + 2 + (e + 1 + 1) = 0 + (e + 1 + 1) + 2 by omega, show 0 + (e + 1 + 1) = e + 1 + 1 by omega]
          grind
        · rcases Nat.eq_zero_or_pos e with rfl | he
          · -- the even terms
            unfold D
            have k := W_even b c d (i + 1)
            rw [show 2 * (i + 1) + 4 = 2 * (i + 1) + 2 + (0 + 1 + 1) by omega] at k
            rw [show (0 + 1 + 1) = 2 from rfl] at k ⊢
            rw [W_2, Int.mul_comm, k]
            grind
          · have k3 := ihe e (by omega) (i + 2) (by omega)
            have k2 := ih (e + 2) i (by omega)
            have k1 := ih e (i + 1) (by omega)
            have s1 := hS (i + e + 1) (by omega)
            have s2 := hS i (by omega)
            have j1 := hJ (i + e + 1) (by omega)
            have j2 := hJ i (by omega)
            have F := F_rel hc s1 s2 j1 j2
            unfold D at k1 k2 k3 ⊢
            have z1 := hz (2 * (i + 1) + 2 + e) (by omega) (by omega)
            have z2 := hz e he (by omega)
            have hA : W b c d (2 * (i + 1) + 2 + e) * W b c d e ≠ 0 := Int.mul_ne_zero z1 z2
            refine cancel hA ?_
            rw [show 2 * (i + 1) + 2 + e = 2 * i + 4 + e by omega, show i + 1 + e + 2 = i + e + 3 by omega, show i + 1 + e = i + e + 1 by omega, show i + 1 + 1 = i + 2 by omega, show i + 1 + 2 = i + 3 by omega] at k1
            rw [show 2 * i + 2 + (e + 2) = 2 * i + 4 + e by omega, show i + (e + 2) + 2 = i + e + 4 by omega, show i + (e + 2) + 1 = i + e + 3 by omega, show i + (e + 2) = i + e + 2 by omega] at k2
            rw [show 2 * (i + 2) + 2 + e = 2 * i + 6 + e by omega, show i + 2 + e + 2 = i + e + 4 by omega, show i + 2 + e + 1 = i + e + 3 by omega, show i + 2 + e = i + e + 2 by omega, show i + 2 + 2 = i + 4 by omega, show i + 2 + 1 = i + 3 by omega] at k3
            rw [show i + e + 1 + 4 = i + e + 5 by omega, show i + e + 1 + 3 = i + e + 4 by omega, show i + e + 1 + 2 = i + e + 3 by omega, show i + e + 1 + 1 = i + e + 2 by omega] at F
            rw [show 2 * (i + 1) + 2 + e = 2 * i + 4 + e by omega, show 2 * (i + 1) + 2 + (e + 1 + 1) = 2 * i + 6 + e by omega, show e + 1 + 1 = e + 2 by omega, show i + 1 + (e + 2) + 2 = i + e + 5 by omega, show i + 1 + (e + 2) + 1 = i + e + 4 by omega, show i + 1 + (e + 2) = i + e + 3 by omega, show i + 1 + 1 = i + 2 by omega, show i + 1 + 2 = i + 3 by omega]
            rw [k1, Int.mul_comm (W b c d (i + e + 3) * W b c d (i + e + 1) * W b c d (i + 2) ^ 2 - W b c d (i + 3) * W b c d (i + 1) * W b c d (i + e + 2) ^ 2) (W b c d (i + e + 5) * W b c d (i + e + 3) * W b c d (i + 2) ^ 2 - W b c d (i + 3) * W b c d (i + 1) * W b c d (i + e + 4) ^ 2), F, ← k1, ← k2, ← k3]
            grind


/-- Congruent. -/
def Cg (t a b : Int) : Prop := t ∣ a - b
theorem Cg.refl (t a : Int) : Cg t a a := ⟨0, by omega⟩
theorem Cg.mul {t a b c d : Int} (h : Cg t a b) (k : Cg t c d) : Cg t (a * c) (b * d) := by
  obtain ⟨x, hx⟩ := h
  obtain ⟨y, hy⟩ := k
  refine ⟨x * c + b * y, ?_⟩
  have e1 : a = b + t * x := by omega
  have e2 : c = d + t * y := by omega
  subst e1 e2
  grind
theorem Cg.sub {t a b c d : Int} (h : Cg t a b) (k : Cg t c d) : Cg t (a - c) (b - d) := by
  obtain ⟨x, hx⟩ := h
  obtain ⟨y, hy⟩ := k
  refine ⟨x - y, ?_⟩
  rw [Int.mul_sub]
  omega
theorem Cg.pow {t a b : Int} (h : Cg t a b) : ∀ n : Nat, Cg t (a ^ n) (b ^ n)
  | 0 => by rw [Int.pow_zero, Int.pow_zero]; exact Cg.refl _ _
  | n + 1 => by rw [Int.pow_succ, Int.pow_succ]; exact (Cg.pow h n).mul h
theorem Cg.eq {t a b c : Int} (h : Cg t a b) (k : b = c) : Cg t a c := k ▸ h
theorem Cg.dvd {t a b : Int} (h : Cg t a b) : t ∣ a ↔ t ∣ b := by
  obtain ⟨x, hx⟩ := h
  constructor
  · rintro ⟨y, hy⟩
    exact ⟨y - x, by rw [Int.mul_sub]; omega⟩
  · rintro ⟨y, hy⟩
    exact ⟨y + x, by rw [Int.mul_add]; omega⟩
theorem Cg.symm {t a b : Int} (h : Cg t a b) : Cg t b a := by
  obtain ⟨x, hx⟩ := h
  exact ⟨-x, by rw [Int.mul_neg]; omega⟩
theorem Cg.trans {t a b c : Int} (h : Cg t a b) (k : Cg t b c) : Cg t a c := by
  obtain ⟨x, hx⟩ := h
  obtain ⟨y, hy⟩ := k
  exact ⟨x + y, by rw [Int.mul_add]; omega⟩

/-- What the sequence is where W(n) = n. -/
def u (n : Nat) : Int := if n % 2 = 0 then ((n / 2 : Nat) : Int) else (n : Int)
theorem u_ev (k : Nat) : u (2 * k) = k := by unfold u; rw [if_pos (by omega)]; congr 1; omega
theorem u_od (k : Nat) : u (2 * k + 1) = 2 * k + 1 := by unfold u; rw [if_neg (by omega)]; omega
theorem V_u {t q c d : Int} (hq : Cg t q 16) (hc : Cg t c 3) (hd : Cg t d 2) : ∀ n, Cg t (V q c d n) (u n) := by
  intro n
  induction n using Nat.strongRecOn with
  | ind n ih =>
    rcases Nat.lt_or_ge n 5 with h | h
    · have : n = 0 ∨ n = 1 ∨ n = 2 ∨ n = 3 ∨ n = 4 := by omega
      rcases this with rfl | rfl | rfl | rfl | rfl
      · rw [V_0]; exact Cg.refl _ _
      · rw [V_1]; exact Cg.refl _ _
      · rw [V_2]; exact Cg.refl _ _
      · rw [V_3]; exact hc
      · rw [V_4]; exact hd
    · obtain ⟨j, hj⟩ : ∃ j, n = 2 * j + 4 ∨ n = 2 * j + 3 := ⟨(n - 3) / 2, by omega⟩
      rcases hj with rfl | rfl
      · rw [V_even q c d j (by omega)]
        refine Cg.eq ((ih (j + 2) (by omega)).mul (((ih (j + 4) (by omega)).mul ((ih (j + 1) (by omega)).pow 2)).sub ((ih j (by omega)).mul ((ih (j + 3) (by omega)).pow 2)))) ?_
        obtain ⟨k, hk⟩ : ∃ k, j = 2 * k ∨ j = 2 * k + 1 := ⟨j / 2, by omega⟩
        rcases hk with rfl | rfl
        · rw [show 2 * k + 2 = 2 * (k + 1) by omega, show 2 * k + 4 = 2 * (k + 2) by omega, show 2 * k + 3 = 2 * (k + 1) + 1 by omega, show 2 * (2 * k) + 4 = 2 * (2 * k + 2) by omega, u_ev, u_ev, u_ev, u_ev, u_od, u_od]
          simp only [Int.natCast_add, Int.natCast_mul]
          grind
        · rw [show 2 * k + 1 + 2 = 2 * (k + 1) + 1 by omega, show 2 * k + 1 + 4 = 2 * (k + 2) + 1 by omega, show 2 * k + 1 + 3 = 2 * (k + 2) by omega, show 2 * k + 1 + 1 = 2 * (k + 1) by omega, show 2 * (2 * k + 1) + 4 = 2 * (2 * k + 3) by omega, u_ev, u_ev, u_ev, u_od, u_od, u_od]
          simp only [Int.natCast_add, Int.natCast_mul]
          grind
      · obtain ⟨k, hk⟩ : ∃ k, j = 2 * k ∨ j = 2 * k + 1 := ⟨j / 2, by omega⟩
        rcases hk with rfl | rfl
        · rw [V_odd1 q c d (2 * k) (by omega) (by omega)]
          refine Cg.eq (((ih _ (by omega)).mul ((ih _ (by omega)).pow 3)).sub (hq.mul ((ih _ (by omega)).mul ((ih _ (by omega)).pow 3)))) ?_
          rw [show 2 * k + 2 = 2 * (k + 1) by omega, show 2 * k + 3 = 2 * (k + 1) + 1 by omega, show 2 * (2 * k) + 3 = 2 * (2 * k + 1) + 1 by omega, u_ev, u_ev, u_od, u_od, u_od]
          simp only [Int.natCast_add, Int.natCast_mul]
          grind
        · rw [V_odd0 q c d (2 * k + 1) (by omega) (by omega)]
          refine Cg.eq ((hq.mul ((ih _ (by omega)).mul ((ih _ (by omega)).pow 3))).sub ((ih _ (by omega)).mul ((ih _ (by omega)).pow 3))) ?_
          rw [show 2 * k + 1 + 2 = 2 * (k + 1) + 1 by omega, show 2 * k + 1 + 3 = 2 * (k + 2) by omega, show 2 * k + 1 + 1 = 2 * (k + 1) by omega, show 2 * (2 * k + 1) + 3 = 2 * (2 * k + 2) + 1 by omega, u_ev, u_ev, u_od, u_od, u_od]
          simp only [Int.natCast_add, Int.natCast_mul]
          grind
theorem u_pos {n : Nat} (h : 0 < n) : 0 < u n ∧ u n ≤ n := by
  unfold u
  split <;> omega
theorem not_dvd {t x : Int} (h0 : 0 < x) (h1 : x < t) : ¬ t ∣ x := fun h => by
  have := Int.le_of_dvd h0 h
  omega
/-- No term is nought, as far as t goes. -/
theorem W_ne {t b c d : Int} (ht : 3 < t) (hb : Cg t b 2) (hc : Cg t c 3) (hd : Cg t d 2) {n : Nat} (h0 : 0 < n) (h1 : (n : Int) < t) : W b c d n ≠ 0 := by
  have hv : V (b ^ 4) c d n ≠ 0 := by
    intro h
    have k := (V_u (hb.pow 4) hc hd n).dvd.1 (by rw [h]; exact ⟨0, by omega⟩)
    have hu := u_pos h0
    exact not_dvd hu.1 (by omega) k
  have hb0 : b ≠ 0 := by
    rintro rfl
    exact not_dvd (by decide) (by omega) (hb.dvd.1 ⟨0, by omega⟩)
  unfold W
  split
  · exact Int.mul_ne_zero hb0 hv
  · exact hv
/-- Numbers as they are wanted of N, and of N h + 1. -/
theorem lift (N h x y : Int) : Cg N (x + N * h * (x - y)) x ∧ Cg (N * h + 1) (x + N * h * (x - y)) y := by
  constructor
  · exact ⟨h * (x - y), by rw [Int.mul_assoc]; omega⟩
  · exact ⟨x - y, by grind⟩
/-- For each N and each bound there are numbers of those rests whose sequence keeps the relation up to the bound. -/
theorem eds_of (N : Nat) (hN : 1 < N) (t : Nat) (x y z : Int) : ∃ b c d : Int, Cg N b x ∧ Cg N c y ∧ Cg N d z ∧ ∀ j e, 2 * j + 2 + e < t → D (W b c d) j e := by
  have l1 := lift N (t + 2) x 2
  have l2 := lift N (t + 2) y 3
  have l3 := lift N (t + 2) z 2
  have hT : (t : Int) + 3 < (N : Int) * ((t : Int) + 2) + 1 := by
    have : (2 : Int) * ((t : Int) + 2) ≤ (N : Int) * ((t : Int) + 2) := Int.mul_le_mul_of_nonneg_right (by omega) (by omega)
    omega
  refine ⟨_, _, _, l1.1, l2.1, l3.1, fun j e h => ?_⟩
  have hz : ∀ n, 0 < n → n < t → W (x + N * (t + 2) * (x - 2)) (y + N * (t + 2) * (y - 3)) (z + N * (t + 2) * (z - 2)) n ≠ 0 := fun n h0 h1 => W_ne (by omega) l1.2 l2.2 l3.2 h0 (by omega)
  have hc : (y + N * (t + 2) * (y - 3)) ≠ 0 := fun h => not_dvd (by decide) (by omega) (l2.2.dvd.1 (by rw [h]; exact ⟨0, by omega⟩))
  exact eds hc hz (2 * j + 2 + e) h e j (Nat.le_refl _)

def IsP (p : Nat) : Prop := 1 < p ∧ ∀ x, x ∣ p → x = 1 ∨ x = p
theorem IsP.nat {p a b : Nat} (h : IsP p) (hd : p ∣ a * b) : p ∣ a ∨ p ∣ b := by
  rcases h.2 (Nat.gcd p a) (Nat.gcd_dvd_left p a) with h1 | h1
  · exact .inr (Nat.Coprime.dvd_of_dvd_mul_left h1 hd)
  · exact .inl (h1 ▸ Nat.gcd_dvd_right p a)
theorem IsP.int {p : Nat} {a b : Int} (h : IsP p) (hd : (p : Int) ∣ a * b) : (p : Int) ∣ a ∨ (p : Int) ∣ b := by
  rw [Int.ofNat_dvd_left, Int.natAbs_mul] at hd
  rcases h.nat hd with k | k
  · exact .inl (Int.ofNat_dvd_left.2 k)
  · exact .inr (Int.ofNat_dvd_left.2 k)
theorem IsP.sq {p : Nat} {a : Int} (h : IsP p) (hd : (p : Int) ∣ a ^ 2) : (p : Int) ∣ a := by
  rw [Int.pow_succ, Int.pow_succ, Int.pow_zero, Int.one_mul] at hd
  rcases h.int hd with k | k <;> exact k

/-- Behind the first nought stands none. -/
theorem next_ne {w : Nat → Int} {t p : Nat} (hp : IsP p) (hD : ∀ j e, 2 * j + 2 + e < t → D w j e) (h3 : ¬ (p : Int) ∣ w 3) {r : Nat} (hr : 4 ≤ r) (hrt : r + 2 < t) (hz : (p : Int) ∣ w r) (hmin : ∀ n, 0 < n → n < r → ¬ (p : Int) ∣ w n) (hw1 : w 1 = 1) : ¬ (p : Int) ∣ w (r + 1) := by
  intro h
  have k := hD 1 (r - 3) (by omega)
  unfold D at k
  rw [show 2 * 1 + 2 + (r - 3) = r + 1 by omega, show 1 + (r - 3) + 2 = r by omega, show 1 + (r - 3) + 1 = r - 1 by omega, show 1 + 2 = 3 from rfl, hw1] at k
  have d1 : (p : Int) ∣ w 3 * 1 * w (r - 1) ^ 2 := by
    obtain ⟨x, hx⟩ := h
    obtain ⟨y, hy⟩ := hz
    rw [hx, hy] at k
    exact ⟨y * w (1 + (r - 3)) * w (1 + 1) ^ 2 - x * w (r - 3), by grind⟩
  rcases hp.int d1 with d2 | d2
  · rw [Int.mul_one] at d2
    exact h3 d2
  · exact hmin (r - 1) (by omega) (by omega) (hp.sq d2)

/-- All noughts are multiples of the first. -/
theorem rank_dvd {w : Nat → Int} {t p : Nat} (hp : IsP p) (hD : ∀ j e, 2 * j + 2 + e < t → D w j e) (h3 : ¬ (p : Int) ∣ w 3) {r : Nat} (hr : 4 ≤ r) (hrt : r + 2 < t) (hz : (p : Int) ∣ w r) (hmin : ∀ n, 0 < n → n < r → ¬ (p : Int) ∣ w n) (hw1 : w 1 = 1) :
    ∀ n, n < t → (p : Int) ∣ w n → r ∣ n := by
  have hn1 := next_ne hp hD h3 hr hrt hz hmin hw1
  have hn0 := hmin (r - 1) (by omega) (by omega)
  intro n
  induction n using Nat.strongRecOn with
  | ind n ih =>
    intro hnt hn
    rcases Nat.eq_zero_or_pos n with rfl | h0
    · exact ⟨0, rfl⟩
    rcases Nat.lt_or_ge n r with hlt | hge
    · exact absurd hn (hmin n h0 hlt)
    rcases Nat.eq_or_lt_of_le hge with rfl | hgt
    · exact Nat.dvd_refl _
    obtain ⟨c, rfl⟩ : ∃ c, n = c + r := ⟨n - r, by omega⟩
    have key : (p : Int) ∣ w c := by
      obtain ⟨x, hx⟩ := hn
      obtain ⟨y, hy⟩ := hz
      have d1 : (p : Int) ∣ w (r + 1) * w (r - 1) * w c ^ 2 := by
        rcases Nat.lt_or_ge c r with hcr | hcr
        · have k := hD (c - 1) (r - c) (by omega)
          unfold D at k
          rw [show 2 * (c - 1) + 2 + (r - c) = c + r by omega, show c - 1 + (r - c) + 2 = r + 1 by omega, show c - 1 + (r - c) + 1 = r by omega, show c - 1 + (r - c) = r - 1 by omega, show c - 1 + 1 = c by omega, show c - 1 + 2 = c + 1 by omega, hx, hy] at k
          exact ⟨x * w (r - c) + w (c + 1) * w (c - 1) * (p * y ^ 2), by grind⟩
        · have k := hD (r - 1) (c - r) (by omega)
          unfold D at k
          rw [show 2 * (r - 1) + 2 + (c - r) = c + r by omega, show r - 1 + (c - r) + 2 = c + 1 by omega, show r - 1 + (c - r) + 1 = c by omega, show r - 1 + (c - r) = c - 1 by omega, show r - 1 + 1 = r by omega, show r - 1 + 2 = r + 1 by omega, hx, hy] at k
          exact ⟨w (c + 1) * w (c - 1) * (p * y ^ 2) - x * w (c - r), by grind⟩
      rcases hp.int d1 with d2 | d2
      · rcases hp.int d2 with d3 | d3
        · exact absurd d3 hn1
        · exact absurd d3 hn0
      · exact hp.sq d2
    have := ih c (by omega) (by omega) key
    exact Nat.dvd_add this (Nat.dvd_refl _)

/-- Multiples of the first nought are noughts. -/
theorem mult_zero {w : Nat → Int} {t p : Nat} (hp : IsP p) (hD : ∀ j e, 2 * j + 2 + e < t → D w j e) (h3 : ¬ (p : Int) ∣ w 3) {r : Nat} (hr : 4 ≤ r) (hrt : r + 2 < t) (hz : (p : Int) ∣ w r) (hmin : ∀ n, 0 < n → n < r → ¬ (p : Int) ∣ w n) (hw0 : w 0 = 0) (hw1 : w 1 = 1) :
    ∀ q, r * q < t → (p : Int) ∣ w (r * q) := by
  have hdv := rank_dvd hp hD h3 hr hrt hz hmin hw1
  intro q
  induction q with
  | zero => intro _; rw [Nat.mul_zero, hw0]; exact ⟨0, by omega⟩
  | succ q ih =>
    intro hq
    rcases q with _ | q
    · rw [show r * (0 + 1) = r by omega]; exact hz
    have e0 : r * (q + 1) = r * q + r := Nat.mul_succ r q
    have e1 : r * (q + 1 + 1) = r * q + r + r := by rw [Nat.mul_succ, e0]
    rw [e0] at ih
    rw [e1] at hq ⊢
    obtain ⟨x, hx⟩ := ih (by omega)
    obtain ⟨y, hy⟩ := hz
    have k := hD (r - 2) (r * q + 2) (by omega)
    unfold D at k
    rw [show 2 * (r - 2) + 2 + (r * q + 2) = r * q + r + r by omega, show r - 2 + (r * q + 2) + 2 = r * q + r + 2 by omega, show r - 2 + (r * q + 2) = r * q + r by omega, show r - 2 + 2 = r by omega, hx, hy] at k
    have hd : (p : Int) ∣ w (r * q + r + r) * w (r * q + 2) := by
      rw [k]
      exact ⟨w (r * q + r + 2) * x * w (r - 2 + 1) ^ 2 - y * w (r - 2) * w (r * q + r + 1) ^ 2, by grind⟩
    rcases hp.int hd with h | h
    · exact h
    · have h5 := hdv (r * q + 2) (by omega) h
      have h6 : r ∣ 2 := (Nat.dvd_add_right (Nat.dvd_mul_right r q)).1 h5
      have := Nat.le_of_dvd (by omega) h6
      omega

/-- Each quotient is met. -/
theorem quot {p : Nat} (hp : IsP p) {x y : Int} (hy : ¬ (p : Int) ∣ y) : ∃ v : Nat, v < p ∧ (p : Int) ∣ v * y - x := by
  have hp0 : (0 : Int) < p := by have := hp.1; omega
  have hpn : (p : Int) ≠ 0 := by omega
  have e1 : ((y % p).toNat : Int) = y % p := Int.toNat_of_nonneg (Int.emod_nonneg _ hpn)
  have e2 : ((x % p).toNat : Int) = x % p := Int.toNat_of_nonneg (Int.emod_nonneg _ hpn)
  have hX : (x % p).toNat < p := by have := Int.emod_lt_of_pos x hp0; omega
  have hY : ¬ p ∣ (y % p).toNat := by
    intro h
    have h' : (p : Int) ∣ ((y % p).toNat : Int) := Int.ofNat_dvd.2 h
    rw [e1] at h'
    exact hy ((Int.dvd_iff_emod_eq_zero).2 (by have := Int.emod_eq_zero_of_dvd h'; rwa [Int.emod_emod] at this))
  have hinj : ∀ i j, i < j → j < p → i * (y % p).toNat % p ≠ j * (y % p).toNat % p := by
    intro i j hij hj he
    have hd : p ∣ (j - i) * (y % p).toNat := by
      rw [Nat.sub_mul]
      exact Nat.dvd_of_mod_eq_zero (Nat.sub_mod_eq_zero_of_mod_eq he.symm)
    rcases hp.nat hd with k | k
    · have := Nat.le_of_dvd (by omega) k
      omega
    · exact hY k
  obtain ⟨v, hv, hvx⟩ := met (n := p) (f := fun i => i * (y % p).toNat % p) (fun i _ => Nat.mod_lt _ (by have := hp.1; omega)) hinj hX
  refine ⟨v, hv, ?_⟩
  have e3 : ((v : Int) * (y % p)) % p = x % p := by
    rw [← e1, ← e2, ← hvx, Int.natCast_emod, Int.natCast_mul]
  have e4 : ((v : Int) * y) % p = x % p := by rw [← e3, Int.mul_emod (v : Int) y, Int.mul_emod (v : Int) (y % p), Int.emod_emod]
  rw [Int.dvd_iff_emod_eq_zero, Int.sub_emod, e4, Int.sub_self, Int.zero_emod]

/-- The first nought stands at 2 p + 2 at the most. -/
theorem rank_le {w : Nat → Int} {t p : Nat} (hp : IsP p) (hD : ∀ j e, 2 * j + 2 + e < t → D w j e) {r : Nat} (hrt : r < t) (hmin : ∀ n, 0 < n → n < r → ¬ (p : Int) ∣ w n) : r ≤ 2 * p + 2 := by
  apply Classical.byContradiction
  intro hbig
  have hex : ∀ i, ∃ v : Nat, i < p + 1 → (v < p ∧ (p : Int) ∣ v * w (i + 1) ^ 2 - w (i + 2) * w i) := by
    intro i
    by_cases hi : i < p + 1
    · obtain ⟨v, h1, h2⟩ := quot (x := w (i + 2) * w i) (y := w (i + 1) ^ 2) hp (fun h => hmin (i + 1) (by omega) (by omega) (hp.sq h))
      exact ⟨v, fun _ => ⟨h1, h2⟩⟩
    · exact ⟨0, fun h => absurd h hi⟩
  have hch := fun i => Classical.choose_spec (hex i)
  obtain ⟨i, j, hij, hj, e⟩ := no_more p (fun i => Classical.choose (hex i)) (fun i hi => (hch i hi).1)
  obtain ⟨_, x, hx⟩ := hch i (by omega)
  obtain ⟨_, y, hy⟩ := hch j hj
  rw [show Classical.choose (hex i) = Classical.choose (hex j) from e] at hx
  generalize Classical.choose (hex j) = v at hx hy
  have k := hD i (j - i) (by omega)
  unfold D at k
  rw [show i + (j - i) + 2 = j + 2 by omega, show i + (j - i) + 1 = j + 1 by omega, show i + (j - i) = j by omega] at k
  have hd : (p : Int) ∣ w (2 * i + 2 + (j - i)) * w (j - i) := by
    rw [k]
    exact ⟨x * w (j + 1) ^ 2 - y * w (i + 1) ^ 2, by grind⟩
  rcases hp.int hd with h | h
  · exact hmin _ (by omega) (by omega) h
  · exact hmin _ (by omega) (by omega) h
/-- The least number of a kind. -/
theorem least {P : Nat → Prop} : ∀ n, P n → ∃ r, r ≤ n ∧ P r ∧ ∀ k, k < r → ¬ P k := by
  intro n
  induction n using Nat.strongRecOn with
  | ind n ih =>
    intro h
    by_cases hx : ∃ k, k < n ∧ P k
    · obtain ⟨k, hk, hP⟩ := hx
      obtain ⟨r, h1, h2, h3⟩ := ih k hk hP
      exact ⟨r, by omega, h2, h3⟩
    · exact ⟨n, Nat.le_refl _, h, fun k hk hP => hx ⟨k, hk, hP⟩⟩
theorem factor : ∀ n, 1 < n → ∃ p, IsP p ∧ p ∣ n := by
  intro n hn
  obtain ⟨r, h1, ⟨h2, h3⟩, h4⟩ := least (P := fun k => 1 < k ∧ k ∣ n) n ⟨hn, Nat.dvd_refl _⟩
  refine ⟨r, ⟨h2, fun x hx => ?_⟩, h3⟩
  have hx0 := Nat.pos_of_dvd_of_pos hx (by omega)
  have hxr := Nat.le_of_dvd (by omega) hx
  by_cases h : x = r
  · exact .inr h
  · refine .inl ?_
    have := h4 x (by omega)
    apply Classical.byContradiction
    intro hx1
    exact this ⟨by omega, Nat.dvd_trans hx h3⟩
theorem isP_of {n : Nat} (hn : 1 < n) (h : ∀ p, IsP p → p ∣ n → n < p * p) : IsP n := by
  refine ⟨hn, fun x hx => ?_⟩
  obtain ⟨y, rfl⟩ := hx
  apply Classical.byContradiction
  intro hno
  have hx1 : 1 < x := by
    rcases x with _ | _ | x
    · simp at hn
    · exact absurd (.inl rfl) hno
    · omega
  have hy1 : 1 < y := by
    rcases y with _ | _ | y
    · simp at hn
    · exact absurd (.inr (by simp)) hno
    · omega
  rcases Nat.le_total x y with hle | hle
  · obtain ⟨p, hp, hd⟩ := factor x hx1
    have h1 := h p hp (Nat.dvd_trans hd (Nat.dvd_mul_right x y))
    have h2 := Nat.le_of_dvd (by omega) hd
    have h3 := Nat.mul_le_mul h2 (Nat.le_trans h2 hle)
    omega
  · obtain ⟨p, hp, hd⟩ := factor y hy1
    have h1 := h p hp (Nat.dvd_trans hd (Nat.dvd_mul_left y x))
    have h2 := Nat.le_of_dvd (by omega) hd
    have h3 := Nat.mul_le_mul (Nat.le_trans h2 hle) h2
    omega

/-- A number is prime, if of a sequence by it the term k l is nought and of k not, with l a prime that is great enough. -/
theorem step {N k l : Nat} {x y z : Int} (hN : 1 < N) (hl : IsP l) (hk : 0 < k) (h4 : ∀ p, p * p ≤ N → 2 * p + 2 < l)
    (hx : ∀ p : Nat, IsP p → p ∣ N → ¬ (p : Int) ∣ x) (hy : ∀ p : Nat, IsP p → p ∣ N → ¬ (p : Int) ∣ y)
    (hz : ∀ b c d : Int, Cg N b x → Cg N c y → Cg N d z → (N : Int) ∣ W b c d (k * l))
    (hw : ∀ b c d : Int, Cg N b x → Cg N c y → Cg N d z → ∀ p : Nat, IsP p → p ∣ N → ¬ (p : Int) ∣ W b c d k) : IsP N := by
  refine isP_of hN fun p hp hpN => ?_
  apply Classical.byContradiction
  intro hno
  have hl4 := h4 p (by omega)
  obtain ⟨b, c, d, gb, gc, gd, hD⟩ := eds_of N hN (k * l + 3) x y z
  have hpi : (p : Int) ∣ (N : Int) := Int.ofNat_dvd.2 hpN
  have dn : ∀ {a a' : Int}, Cg N a a' → ((p : Int) ∣ a ↔ (p : Int) ∣ a') := fun h => Cg.dvd (Int.dvd_trans hpi h)
  have w2 : ¬ (p : Int) ∣ W b c d 2 := by rw [W_2]; exact fun h => hx p hp hpN ((dn gb).1 h)
  have w3 : ¬ (p : Int) ∣ W b c d 3 := by rw [W_3]; exact fun h => hy p hp hpN ((dn gc).1 h)
  have hkl : 0 < k * l := Nat.mul_pos hk (by omega)
  obtain ⟨r, hr1, ⟨hr0, hrz⟩, hrm⟩ := least (P := fun n => 0 < n ∧ (p : Int) ∣ W b c d n) (k * l) ⟨hkl, Int.dvd_trans hpi (hz b c d gb gc gd)⟩
  have hmin : ∀ n, 0 < n → n < r → ¬ (p : Int) ∣ W b c d n := fun n h0 h1 h => hrm n h1 ⟨h0, h⟩
  have hr4 : 4 ≤ r := by
    apply Classical.byContradiction
    intro hlt
    have : r = 1 ∨ r = 2 ∨ r = 3 := by omega
    rcases this with rfl | rfl | rfl
    · rw [W_1] at hrz
      have := Int.le_of_dvd (by decide) hrz
      have := hp.1
      omega
    · exact w2 hrz
    · exact w3 hrz
  have hdv := rank_dvd (t := k * l + 3) hp hD w3 hr4 (by omega) hrz hmin (W_1 b c d)
  have hle := rank_le (t := k * l + 3) hp hD (by omega) hmin
  have hm := hdv (k * l) (by omega) (Int.dvd_trans hpi (hz b c d gb gc gd))
  have hkn : ¬ r ∣ k := by
    intro h
    obtain ⟨q, hq⟩ := h
    have kk := hw b c d gb gc gd p hp hpN
    -- multiples of the rank are noughts
    rw [hq] at kk
    exact kk (mult_zero (t := k * l + 3) hp hD w3 hr4 (by omega) hrz hmin (W_0 b c d) (W_1 b c d) q (by rw [← hq]; have := Nat.mul_le_mul_left k (show 1 ≤ l by omega); omega))
  rcases hl.2 (Nat.gcd l r) (Nat.gcd_dvd_left l r) with h1 | h1
  · have hc : Nat.Coprime r l := (show Nat.Coprime l r from h1).symm
    exact hkn (Nat.Coprime.dvd_of_dvd_mul_right hc hm)
  · have h5 : l ∣ r := h1 ▸ Nat.gcd_dvd_right l r
    have := Nat.le_of_dvd (by omega) h5
    omega

/-- A number laid before what goes on with it. -/
def fc {α : Type} (x : Nat) (k : Nat → α) : α := Nat.casesOn (motive := fun _ => α) x (k 0) (fun y => k (Nat.succ y))
theorem fc_is {α : Type} (x : Nat) (k : Nat → α) : fc x k = k x := by cases x <;> rfl
def mm (N a b : Nat) : Nat := Nat.mod (Nat.mul a b) N
def od (N NN a b c d : Nat) : Nat := Nat.mod (Nat.add (Nat.mul a b) (Nat.sub NN (Nat.mul c d))) N
def ev (N NN bi a b c d : Nat) : Nat := Nat.mod (Nat.mul bi (od N NN a b c d)) N

/-- Eight terms around k, doubled along the bits of m. -/
def run (N NN bi m : Nat) : Nat → Nat → Nat → Nat → Nat → Nat → Nat → Nat → Nat → Nat
  | 0, _, _, _, w3, _, _, _, _ => w3
  | f + 1, w0, w1, w2, w3, w4, w5, w6, w7 =>
    fc (mm N w1 w1) fun s1 => fc (mm N w2 w2) fun s2 => fc (mm N w3 w3) fun s3 => fc (mm N w4 w4) fun s4 => fc (mm N w5 w5) fun s5 => fc (mm N w6 w6) fun s6 =>
    fc (mm N w0 w2) fun p1 => fc (mm N w1 w3) fun p2 => fc (mm N w2 w4) fun p3 => fc (mm N w3 w5) fun p4 => fc (mm N w4 w6) fun p5 => fc (mm N w5 w7) fun p6 =>
    fc (ev N NN bi p3 s1 p1 s3) fun o1 => fc (od N NN p3 s2 p2 s3) fun o2 => fc (ev N NN bi p4 s2 p2 s4) fun o3 => fc (od N NN p4 s3 p3 s4) fun o4 =>
    fc (ev N NN bi p5 s3 p3 s5) fun o5 => fc (od N NN p5 s4 p4 s5) fun o6 => fc (ev N NN bi p6 s4 p4 s6) fun o7 =>
    Nat.casesOn (motive := fun _ => Nat) (Nat.mod (Nat.shiftRight m f) 2)
      (fc (od N NN p2 s1 p1 s2) fun o0 => run N NN bi m f o0 o1 o2 o3 o4 o5 o6 o7)
      (fun _ => fc (od N NN p6 s5 p5 s6) fun o8 => run N NN bi m f o1 o2 o3 o4 o5 o6 o7 o8)

def start (N NN bi b c d m f : Nat) : Nat :=
  fc (mm N b d) fun w4 =>
  fc (od N NN (mm N b w4) (mm N b b) (mm N 1 c) (mm N c c)) fun w5 =>
  fc (ev N NN bi (mm N c w5) (mm N b b) (mm N 1 c) (mm N w4 w4)) fun w6 =>
  fc (od N NN (mm N c w5) (mm N c c) (mm N b w4) (mm N w4 w4)) fun w7 =>
  fc (ev N NN bi (mm N w4 w6) (mm N c c) (mm N b w4) (mm N w5 w5)) fun w8 =>
  fc (od N NN (mm N w4 w6) (mm N w4 w4) (mm N c w5) (mm N w5 w5)) fun w9 =>
  fc (ev N NN bi (mm N w5 w7) (mm N w4 w4) (mm N c w5) (mm N w6 w6)) fun w10 =>
  fc (od N NN (mm N w5 w7) (mm N w5 w5) (mm N w4 w6) (mm N w6 w6)) fun w11 =>
  fc (Nat.sub (Nat.shiftRight m f) 4) fun i =>
    Nat.casesOn (motive := fun _ => Nat) i (run N NN bi m f 1 b c w4 w5 w6 w7 w8)
      (fun i => Nat.casesOn (motive := fun _ => Nat) i (run N NN bi m f b c w4 w5 w6 w7 w8 w9)
        (fun i => Nat.casesOn (motive := fun _ => Nat) i (run N NN bi m f c w4 w5 w6 w7 w8 w9 w10)
          (fun _ => run N NN bi m f w4 w5 w6 w7 w8 w9 w10 w11)))

/-- What is checked of a step. -/
def chk (N k l b c d bi f g : Nat) : Bool :=
  decide (1 < N) && decide (0 < k) && decide (4 * N < (l - 2) * (l - 2)) && decide (2 < l) && decide (Nat.mod (Nat.mul b bi) N = 1) && decide (Nat.gcd c N = 1)
  && decide (4 ≤ Nat.shiftRight (k * l) f) && decide (Nat.shiftRight (k * l) f ≤ 7) && decide (4 ≤ Nat.shiftRight k g) && decide (Nat.shiftRight k g ≤ 7)
  && decide (start N (N * N) bi b c d (k * l) f = 0) && decide (Nat.gcd (start N (N * N) bi b c d k g) N = 1)

theorem Cg.mod (N a : Nat) : Cg N ((a % N : Nat) : Int) (a : Int) := by
  refine ⟨-((a / N : Nat) : Int), ?_⟩
  have h := Nat.mod_add_div a N
  have h' : ((a % N : Nat) : Int) + (N : Int) * ((a / N : Nat) : Int) = (a : Int) := by
    rw [← Int.natCast_mul, ← Int.natCast_add, h]
  rw [Int.mul_neg]
  omega
theorem mm_lt {N : Nat} (hN : 0 < N) (a b : Nat) : mm N a b < N := Nat.mod_lt _ hN
theorem mm_cg (N : Nat) {a b : Nat} {x y : Int} (ha : Cg N x a) (hb : Cg N y b) : Cg N (x * y) (mm N a b : Int) := by
  refine (ha.mul hb).trans ?_
  have h := Cg.mod N (a * b)
  rw [Int.natCast_mul] at h
  exact h.symm
theorem od_cg {N : Nat} (hN : 0 < N) {a b c d : Nat} {x y z w : Int} (hc : c < N) (hd : d < N) (ha : Cg N x a) (hb : Cg N y b) (hz : Cg N z c) (hw : Cg N w d) :
    Cg N (x * y - z * w) (od N (N * N) a b c d : Int) := by
  refine ((ha.mul hb).sub (hz.mul hw)).trans ?_
  have hle : c * d ≤ N * N := Nat.mul_le_mul (Nat.le_of_lt hc) (Nat.le_of_lt hd)
  have h := Cg.mod N (a * b + (N * N - c * d))
  refine Cg.trans ?_ h.symm
  refine ⟨-(N : Int), ?_⟩
  rw [Int.natCast_add, Int.natCast_sub hle, Int.natCast_mul, Int.natCast_mul, Int.natCast_mul, Int.mul_neg]
  omega
theorem od_lt {N : Nat} (hN : 0 < N) (NN a b c d : Nat) : od N NN a b c d < N := Nat.mod_lt _ hN

theorem odd_ok {N : Nat} (hN : 0 < N) {b c d : Int} {j a0 a1 a2 a3 : Nat} (h0 : Cg N (W b c d j) a0) (h1 : Cg N (W b c d (j + 1)) a1) (h2 : Cg N (W b c d (j + 2)) a2) (h3 : Cg N (W b c d (j + 3)) a3) :
    Cg N (W b c d (2 * j + 3)) (od N (N * N) (mm N a1 a3) (mm N a1 a1) (mm N a0 a2) (mm N a2 a2) : Int) := by
  rw [W_odd]
  have k := od_cg hN (mm_lt hN _ _) (mm_lt hN _ _) (mm_cg N h1 h3) (mm_cg N h1 h1) (mm_cg N h0 h2) (mm_cg N h2 h2)
  have e : W b c d (j + 3) * W b c d (j + 1) ^ 3 - W b c d j * W b c d (j + 2) ^ 3 = W b c d (j + 1) * W b c d (j + 3) * (W b c d (j + 1) * W b c d (j + 1)) - W b c d j * W b c d (j + 2) * (W b c d (j + 2) * W b c d (j + 2)) := by grind
  rw [e]
  exact k
theorem even_ok {N : Nat} (hN : 0 < N) {b c d : Int} {bi j a0 a1 a2 a3 a4 : Nat} (hb : Cg N (b * (bi : Int)) 1) (h0 : Cg N (W b c d j) a0) (h1 : Cg N (W b c d (j + 1)) a1) (h2 : Cg N (W b c d (j + 2)) a2) (h3 : Cg N (W b c d (j + 3)) a3) (h4 : Cg N (W b c d (j + 4)) a4) :
    Cg N (W b c d (2 * j + 4)) (ev N (N * N) bi (mm N a2 a4) (mm N a1 a1) (mm N a0 a2) (mm N a3 a3) : Int) := by
  have k := od_cg hN (mm_lt hN _ _) (mm_lt hN _ _) (mm_cg N h2 h4) (mm_cg N h1 h1) (mm_cg N h0 h2) (mm_cg N h3 h3)
  have e : b * W b c d (2 * j + 4) = W b c d (j + 2) * W b c d (j + 4) * (W b c d (j + 1) * W b c d (j + 1)) - W b c d j * W b c d (j + 2) * (W b c d (j + 3) * W b c d (j + 3)) := by
    rw [W_even]
    grind
  rw [← e] at k
  have k2 := (Cg.refl N (bi : Int)).mul k
  have k3 := Cg.mod N (bi * od N (N * N) (mm N a2 a4) (mm N a1 a1) (mm N a0 a2) (mm N a3 a3))
  rw [Int.natCast_mul] at k3
  have k4 := (hb.symm.mul (Cg.refl N (W b c d (2 * j + 4)))).eq (show b * (bi : Int) * W b c d (2 * j + 4) = (bi : Int) * (b * W b c d (2 * j + 4)) by grind)
  rw [Int.one_mul] at k4
  exact (k4.trans k2).trans k3.symm

/-- The eight terms from j on. -/
def Blk (N : Nat) (b c d : Int) (j w0 w1 w2 w3 w4 w5 w6 w7 : Nat) : Prop :=
  Cg N (W b c d j) w0 ∧ Cg N (W b c d (j + 1)) w1 ∧ Cg N (W b c d (j + 2)) w2 ∧ Cg N (W b c d (j + 3)) w3 ∧ Cg N (W b c d (j + 4)) w4 ∧ Cg N (W b c d (j + 5)) w5 ∧ Cg N (W b c d (j + 6)) w6 ∧ Cg N (W b c d (j + 7)) w7

theorem shift_succ (m f : Nat) : Nat.shiftRight m f = 2 * Nat.shiftRight m (f + 1) + Nat.mod (Nat.shiftRight m f) 2 := by
  have h : Nat.shiftRight m (f + 1) = Nat.shiftRight m f / 2 := rfl
  rw [h]
  exact (Nat.div_add_mod _ 2).symm

theorem run_ok {N : Nat} (hN : 0 < N) {b c d : Int} {bi : Nat} (hb : Cg N (b * (bi : Int)) 1) (m : Nat) : ∀ f j w0 w1 w2 w3 w4 w5 w6 w7, Nat.shiftRight m f = j + 3 → Blk N b c d j w0 w1 w2 w3 w4 w5 w6 w7 →
    Cg N (W b c d m) (run N (N * N) bi m f w0 w1 w2 w3 w4 w5 w6 w7 : Int) := by
  intro f
  induction f with
  | zero =>
    intro j w0 w1 w2 w3 w4 w5 w6 w7 hj hB
    have : m = j + 3 := hj
    subst this
    exact hB.2.2.2.1
  | succ f ih =>
    intro j w0 w1 w2 w3 w4 w5 w6 w7 hj ⟨h0, h1, h2, h3, h4, h5, h6, h7⟩
    have hs := shift_succ m f
    rw [hj] at hs
    have e1 := even_ok hN hb h0 h1 h2 h3 h4
    have e2 := odd_ok hN h1 h2 h3 h4
    have e3 := even_ok hN hb h1 h2 h3 h4 h5
    have e4 := odd_ok hN h2 h3 h4 h5
    have e5 := even_ok hN hb h2 h3 h4 h5 h6
    have e6 := odd_ok hN h3 h4 h5 h6
    have e7 := even_ok hN hb h3 h4 h5 h6 h7
    show Cg N (W b c d m) ((run N (N * N) bi m (f + 1) w0 w1 w2 w3 w4 w5 w6 w7 : Nat) : Int)
    unfold run
    simp only [fc_is]
    have hlt : Nat.mod (Nat.shiftRight m f) 2 < 2 := Nat.mod_lt _ (by omega)
    generalize Nat.mod (Nat.shiftRight m f) 2 = z at hs hlt ⊢
    rcases z with _ | z
    · have e0 := odd_ok hN h0 h1 h2 h3
      exact ih (2 * j + 3) _ _ _ _ _ _ _ _ (by omega) ⟨e0, e1, e2, e3, e4, e5, e6, e7⟩
    · have e8 := odd_ok hN h4 h5 h6 h7
      exact ih (2 * j + 4) _ _ _ _ _ _ _ _ (by omega) ⟨e1, e2, e3, e4, e5, e6, e7, e8⟩

theorem start_ok {N : Nat} (hN : 0 < N) {b c d : Int} {bi x y z : Nat} (hb : Cg N (b * (bi : Int)) 1) (gb : Cg N b x) (gc : Cg N c y) (gd : Cg N d z) (m f : Nat) (h4 : 4 ≤ Nat.shiftRight m f) (h7 : Nat.shiftRight m f ≤ 7) :
    Cg N (W b c d m) (start N (N * N) bi x y z m f : Int) := by
  have w1 : Cg N (W b c d 1) ((1 : Nat) : Int) := by rw [W_1]; exact Cg.refl _ _
  have w2 : Cg N (W b c d 2) (x : Int) := by rw [W_2]; exact gb
  have w3 : Cg N (W b c d 3) (y : Int) := by rw [W_3]; exact gc
  have w4 : Cg N (W b c d 4) (mm N x z : Int) := by rw [W_4]; exact mm_cg N gb gd
  have w5 := odd_ok hN (j := 1) w1 w2 w3 w4
  have w6 := even_ok hN hb (j := 1) w1 w2 w3 w4 w5
  have w7 := odd_ok hN (j := 2) w2 w3 w4 w5
  have w8 := even_ok hN hb (j := 2) w2 w3 w4 w5 w6
  have w9 := odd_ok hN (j := 3) w3 w4 w5 w6
  have w10 := even_ok hN hb (j := 3) w3 w4 w5 w6 w7
  have w11 := odd_ok hN (j := 4) w4 w5 w6 w7
  unfold start
  simp only [fc_is]
  obtain ⟨i, hi⟩ : ∃ i, i = Nat.sub (Nat.shiftRight m f) 4 := ⟨_, rfl⟩
  have hi' : Nat.shiftRight m f = i + 4 := by
    have : i = Nat.shiftRight m f - 4 := hi
    omega
  rw [← hi]
  rcases i with _ | _ | _ | i
  · exact run_ok hN hb m f 1 _ _ _ _ _ _ _ _ (by omega) ⟨w1, w2, w3, w4, w5, w6, w7, w8⟩
  · exact run_ok hN hb m f 2 _ _ _ _ _ _ _ _ (by omega) ⟨w2, w3, w4, w5, w6, w7, w8, w9⟩
  · exact run_ok hN hb m f 3 _ _ _ _ _ _ _ _ (by omega) ⟨w3, w4, w5, w6, w7, w8, w9, w10⟩
  · have : i = 0 := by omega
    subst this
    exact run_ok hN hb m f 4 _ _ _ _ _ _ _ _ (by omega) ⟨w4, w5, w6, w7, w8, w9, w10, w11⟩

theorem cop_no {a N p : Nat} (h : Nat.gcd a N = 1) (hp : IsP p) (hd : p ∣ N) : ¬ p ∣ a := by
  intro k
  have := Nat.le_of_dvd (by omega) (h ▸ Nat.dvd_gcd k hd)
  have := hp.1
  omega

/-- A step of the certificate: if l is prime, so is N. -/
theorem chk_ok {N k l b c d bi f g : Nat} (h : chk N k l b c d bi f g = true) (hl : IsP l) : IsP N := by
  unfold chk at h
  simp only [Bool.and_eq_true, decide_eq_true_iff] at h
  obtain ⟨⟨⟨⟨⟨⟨⟨⟨⟨⟨⟨hN, hk⟩, h4⟩, hl2⟩, hbi⟩, hc⟩, hf4⟩, hf7⟩, hg4⟩, hg7⟩, hz⟩, hw⟩ := h
  have hN0 : 0 < N := by omega
  have hb : ∀ x : Int, Cg N x b → Cg N (x * (bi : Int)) 1 := by
    intro x hx
    refine (hx.mul (Cg.refl N (bi : Int))).trans ?_
    have k1 := Cg.mod N (b * bi)
    rw [show b * bi % N = 1 from hbi, Int.natCast_mul] at k1
    exact k1.symm
  refine step (x := b) (y := c) (z := d) hN hl hk ?_ ?_ ?_ ?_ ?_
  · intro p hp
    apply Classical.byContradiction
    intro hno
    have h1 : l - 2 ≤ 2 * p := by omega
    have h2 := Nat.mul_le_mul h1 h1
    have h3 : 2 * p * (2 * p) = 4 * (p * p) := by grind
    omega
  · intro p hp hd hx
    have hx' : p ∣ b := Int.ofNat_dvd.1 hx
    have h1 : p ∣ b * bi % N := (Nat.dvd_mod_iff hd).2 (Nat.dvd_trans hx' (Nat.dvd_mul_right b bi))
    rw [show b * bi % N = 1 from hbi] at h1
    have := Nat.le_of_dvd (by omega) h1
    have := hp.1
    omega
  · intro p hp hd hx
    exact cop_no hc hp hd (Int.ofNat_dvd.1 hx)
  · intro b' c' d' gb gc gd
    have h1 := start_ok hN0 (hb b' gb) gb gc gd (k * l) f hf4 hf7
    rw [hz] at h1
    exact h1.dvd.2 ⟨0, by simp⟩
  · intro b' c' d' gb gc gd p hp hd hx
    have h1 := start_ok hN0 (hb b' gb) gb gc gd k g hg4 hg7
    have h2 : Cg p (W b' c' d' k) (start N (N * N) bi b c d k g : Int) := Int.dvd_trans (Int.ofNat_dvd.2 hd) h1
    exact cop_no hw hp hd (Int.ofNat_dvd.1 (h2.dvd.1 hx))

/-- A small prime, by trial. -/
def trial (n k : Nat) : Bool := decide (1 < n) && decide (n < k * k) && (List.range k).all (fun d => decide (d < 2) || decide (n % d ≠ 0))
theorem trial_ok {n k : Nat} (h : trial n k = true) : IsP n := by
  unfold trial at h
  rw [Bool.and_eq_true, Bool.and_eq_true, decide_eq_true_iff, decide_eq_true_iff, List.all_eq_true] at h
  obtain ⟨⟨h1, h2⟩, h3⟩ := h
  refine isP_of h1 fun p hp hd => ?_
  rcases Nat.lt_or_ge p k with hlt | hge
  · have h4 := h3 p (List.mem_range.2 hlt)
    rw [Bool.or_eq_true, decide_eq_true_iff, decide_eq_true_iff] at h4
    have := hp.1
    rcases h4 with h5 | h5
    · omega
    · exact absurd (Nat.mod_eq_zero_of_dvd hd) h5
  · exact Nat.lt_of_lt_of_le h2 (Nat.mul_le_mul hge hge)
end Go.Proofs.Ytilbkfgbbajelaa.Eds
