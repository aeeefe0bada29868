/- Plain arithmetic of layer 5: the groups' primes, what an element is, and that the elements, and 1, are the squares. No condition but those that each theorem names. -/
import Derived.Test.YtmbdidompjgaaaaNumM
import Derived.Test.YtmbdidompjgaaaaNumB
import Derived.Test.YtmbdidompjgaaaaNumP
namespace Go.Proofs.Ytmbdidompjgaaaa.Num
set_option linter.unusedVariables false

/-- The limbs of the great group's prime, the lowest first. -/
def greatL : List Nat := [
  0xffffffffffffffff, 0xf1746c08ca237327, 0x670c354e4abc9804, 0x9ed529077096966d,
  0x1c62f356208552bb, 0x83655d23dca3ad96, 0x69163fa8fd24cf5f, 0x98da48361c55d39a,
  0xc2007cb8a163bf05, 0x49286651ece45b3d, 0xae9f24117c4b1fe6, 0xee386bfb5a899fa5,
  0x0bff5cb6f406b7ed, 0xf44c42e9a637ed6b, 0xe485b576625e7ec6, 0x4fe1356d6d51c245,
  0x302b0a6df25f1437, 0xef9519b3cd3a431b, 0x514a08798e3404dd, 0x020bbea63b139b22,
  0x29024e088a67cc74, 0xc4c6628b80dc1cd1, 0xc90fdaa22168c234, 0xffffffffffffffff]
/-- A group's prime; 0 where there is no such group. -/
@[irreducible] def P (g : Int) : Nat := if g = 0 then 23 else if g = 1 then 2039 else if g = 5 then val greatL else 0
theorem P_0 : P 0 = 23 := by unfold P; rfl
theorem P_1 : P 1 = 2039 := by unfold P; rfl
theorem P_5 : P 5 = val greatL := by unfold P; rfl
theorem P_no {g : Int} (h0 : g ≠ 0) (h1 : g ≠ 1) (h5 : g ≠ 5) : P g = 0 := by unfold P; rw [if_neg h0, if_neg h1, if_neg h5]
theorem great_ok : greatL.all (fun x => decide (x < M)) = true := by decide +kernel
theorem great_trim : trim greatL = greatL := by decide +kernel
theorem great_Ok : Ok greatL := fun x hx => by simpa using List.all_eq_true.1 great_ok x hx
theorem limbs_great : limbs (val greatL) = greatL := by rw [limbs_val great_Ok, great_trim]
theorem great_pos : val greatL ≠ 0 := by decide +kernel
theorem P_cases (g : Int) : g = 0 ∨ g = 1 ∨ g = 5 ∨ (g ≠ 0 ∧ g ≠ 1 ∧ g ≠ 5) := by omega
theorem P_len (g : Int) : (limbs (P g)).length ≤ 24 := by
  rcases P_cases g with rfl | rfl | rfl | ⟨a, b, c⟩
  · rw [P_0]; decide +kernel
  · rw [P_1]; decide +kernel
  · rw [P_5, limbs_great]; decide +kernel
  · rw [P_no a b c]; decide +kernel
theorem P_lt (g : Int) : P g < M ^ 24 := by
  have h := val_lt (ok_limbs (P g))
  rw [val_limbs] at h
  exact Nat.lt_of_lt_of_le h (Nat.pow_le_pow_right M_pos (P_len g))
theorem len_pos {n : Nat} (h : n ≠ 0) : 0 < (limbs n).length := by rw [limbs_pos h]; simp
theorem half_len (g : Int) : (limbs (P g / 2)).length ≤ 24 := limbs_len (Nat.lt_of_le_of_lt (Nat.div_le_self _ _) (P_lt g))

/-- Whether there is a group of that number. -/
def isG (g : Int) : Bool := decide (P g ≠ 0)
theorem isG_is (g : Int) : isG g = (decide (g = 0) || decide (g = 1) || decide (g = 5)) := by
  unfold isG
  rcases P_cases g with rfl | rfl | rfl | ⟨a, b, c⟩
  · rw [P_0]; rfl
  · rw [P_1]; rfl
  · rw [P_5, decide_eq_true great_pos]; rfl
  · rw [P_no a b c]; simp [a, b, c]

/-- Whether bytes are a group's element. -/
@[irreducible] def isEl (g : Int) (l : List UInt8) : Bool := decide (P g ≠ 0 ∧ l.length ≤ 400 ∧ whole l = true ∧ 1 < bval l ∧ bval l < P g ∧ pm (bval l) (P g / 2) (P g) = 1)
theorem isEl_iff {g : Int} {l : List UInt8} : isEl g l = true ↔ (P g ≠ 0 ∧ l.length ≤ 400 ∧ whole l = true ∧ 1 < bval l ∧ bval l < P g ∧ pm (bval l) (P g / 2) (P g) = 1) := by
  unfold isEl
  exact decide_eq_true_iff
theorem isEl_no {g : Int} {l : List UInt8} (h : ¬ (P g ≠ 0 ∧ l.length ≤ 400 ∧ whole l = true ∧ 1 < bval l ∧ bval l < P g ∧ pm (bval l) (P g / 2) (P g) = 1)) : isEl g l = false := by
  unfold isEl
  exact decide_eq_false h
theorem P_odd {g : Int} (h : P g ≠ 0) : P g ≠ 2 := by
  rcases P_cases g with rfl | rfl | rfl | ⟨a, b, c⟩
  · rw [P_0]; decide
  · rw [P_1]; decide
  · rw [P_5]; decide +kernel
  · exact absurd (P_no a b c) h

/-- Elements of a number's bytes. -/
theorem isEl_byts {g : Int} {n : Nat} (hl : nbyt n ≤ 400) : isEl g (byts n) = true ↔ (1 < n ∧ n < P g ∧ pm n (P g / 2) (P g) = 1) := by
  rw [isEl_iff, byts_length, bval_bytes]
  constructor
  · rintro ⟨_, _, _, a, b, c⟩
    exact ⟨a, b, c⟩
  · rintro ⟨a, b, c⟩
    exact ⟨by omega, hl, whole_bytes n, a, b, c⟩

/-- The squares among the first k numbers. -/
def sqd (p : Nat) : Nat → Nat → Bool
  | 0, _ => false
  | k + 1, i => (decide (k ≠ 0) && decide (k * k % p = i)) || sqd p k i
theorem sqd_iff (p : Nat) : ∀ k i, sqd p k i = true ↔ ∃ j, 1 ≤ j ∧ j < k ∧ j * j % p = i
  | 0, i => ⟨fun h => by simp [sqd] at h, fun ⟨j, _, h, _⟩ => absurd h (Nat.not_lt_zero j)⟩
  | k + 1, i => by
    show ((decide (k ≠ 0) && decide (k * k % p = i)) || sqd p k i) = true ↔ _
    rw [Bool.or_eq_true, Bool.and_eq_true, decide_eq_true_iff, decide_eq_true_iff, sqd_iff p k i]
    constructor
    · rintro (⟨h0, h⟩ | ⟨j, a, b, c⟩)
      · exact ⟨k, by omega, by omega, h⟩
      · exact ⟨j, a, by omega, c⟩
    · rintro ⟨j, a, b, c⟩
      by_cases h : j = k
      · subst h
        exact .inl ⟨by omega, c⟩
      · exact .inr ⟨j, a, by omega, c⟩
theorem sqd_one (p i : Nat) : sqd p 1 i = false := by simp [sqd]
theorem sqd_next (p k : Nat) (hk : 1 ≤ k) (i : Nat) : sqd p (k + 1) i = if i = k * k % p then true else sqd p k i := by
  show ((decide (k ≠ 0) && decide (k * k % p = i)) || sqd p k i) = _
  have h0 : k ≠ 0 := by omega
  by_cases h : i = k * k % p
  · subst h
    simp [h0]
  · have h' : ¬ k * k % p = i := fun e => h e.symm
    simp [h, h']

theorem euler {p i : Nat} (hp : Fermats p) (h4 : p % 4 = 3) (h1 : 1 < i) (hi : i < p) : pm i (p / 2) p = 1 ↔ sqd p p i = true := by
  rw [sqd_iff]
  constructor
  · intro h
    have e1 : pm i ((p + 1) / 4) p * pm i ((p + 1) / 4) p % p = i := by
      rw [← pm_add, show (p + 1) / 4 + (p + 1) / 4 = p / 2 + 1 by omega, pm_succ, h, Nat.one_mul, Nat.mod_eq_of_lt hi]
    have e2 := pm_lt i ((p + 1) / 4) (m := p) (by omega)
    refine ⟨pm i ((p + 1) / 4) p, ?_, e2, e1⟩
    rcases Nat.eq_zero_or_pos (pm i ((p + 1) / 4) p) with h0 | h0
    · rw [h0, Nat.mul_zero, Nat.zero_mod] at e1
      omega
    · exact h0
  · rintro ⟨j, a, b, rfl⟩
    rw [pm_mod, pm_prod, ← pm_add, show p / 2 + p / 2 = p - 1 by omega]
    exact hp.2.2 j (by rw [Nat.mod_eq_of_lt b]; omega)

/-- How many of the k numbers from lo on. -/
def cnt (f : Nat → Bool) (lo : Nat) : Nat → Nat
  | 0 => 0
  | k + 1 => cnt f lo k + (f (lo + k)).toNat
theorem cnt_add (f : Nat → Bool) (lo a : Nat) : ∀ b, cnt f lo (a + b) = cnt f lo a + cnt f (lo + a) b
  | 0 => rfl
  | b + 1 => by
    show cnt f lo (a + b) + (f (lo + (a + b))).toNat = cnt f lo a + (cnt f (lo + a) b + (f (lo + a + b)).toNat)
    rw [cnt_add f lo a b, Nat.add_assoc, Nat.add_assoc lo]
def cntB (f : Nat → Bool) : Nat → Nat → Nat
  | 0, lo => (f lo).toNat
  | d + 1, lo => cntB f d lo + cntB f d (lo + 2 ^ d)
theorem cntB_is (f : Nat → Bool) : ∀ d lo, cntB f d lo = cnt f lo (2 ^ d)
  | 0, lo => by show (f lo).toNat = 0 + (f (lo + 0)).toNat; rw [Nat.zero_add, Nat.add_zero]
  | d + 1, lo => by
    show cntB f d lo + cntB f d (lo + 2 ^ d) = _
    rw [cntB_is f d lo, cntB_is f d (lo + 2 ^ d), ← cnt_add, Nat.pow_succ, Nat.mul_two]
theorem cnt_none (f : Nat → Bool) (lo : Nat) : ∀ k, (∀ j, j < k → f (lo + j) = false) → cnt f lo k = 0
  | 0, _ => rfl
  | k + 1, h => by
    show cnt f lo k + (f (lo + k)).toNat = 0
    rw [cnt_none f lo k (fun j hj => h j (by omega)), h k (by omega)]
    rfl
/-- Whether a number is an element of a small group. -/
def elN (p i : Nat) : Bool := decide (2 ≤ i) && (decide (i < p) && decide (pm i (p / 2) p = 1))
def elB (p : Nat) (l : List Bool) (i : Nat) : Bool := decide (2 ≤ i) && (decide (i < p) && decide (pe i p l = 1))
theorem elN_is {p : Nat} {l : List Bool} (h : p / 2 = nb l) (i : Nat) : elN p i = elB p l i := by unfold elN elB; rw [h, pe_is]
theorem cnt_el {p d c : Nat} {l : List Bool} (h : p / 2 = nb l) (hd : p ≤ 2 ^ d) (hc : cntB (elB p l) d 0 = c) : cnt (elN p) 0 p = c := by
  have hf : elN p = elB p l := funext (elN_is h)
  rw [← hc, cntB_is, ← hf]
  obtain ⟨r, hr⟩ : ∃ r, 2 ^ d = p + r := ⟨2 ^ d - p, by omega⟩
  rw [hr, cnt_add, cnt_none (elN p) (0 + p) r (fun j _ => by
    have : ¬ (0 + p + j < p) := by omega
    unfold elN
    rw [decide_eq_false this]
    simp)]
  rfl
theorem cnt_23 : cnt (elN 23) 0 23 = 10 := cnt_el (d := 5) (l := [true, false, true, true]) (by decide +kernel) (by decide +kernel) (by decide +kernel)
theorem cnt_2039 : cnt (elN 2039) 0 2039 = 1018 := cnt_el (d := 11) (l := [true, true, true, true, true, true, true, false, true, true]) (by decide +kernel) (by decide +kernel) (by decide +kernel)
theorem cnt_le (f : Nat → Bool) (lo : Nat) : ∀ k, cnt f lo k ≤ k
  | 0 => Nat.le_refl _
  | k + 1 => by
    have := cnt_le f lo k
    have := Bool.toNat_le (f (lo + k))
    show cnt f lo k + (f (lo + k)).toNat ≤ k + 1
    omega

/-- What closes under products. -/
theorem el_times {g : Int} {x y : Nat} (hx : 1 < x ∧ x < P g ∧ pm x (P g / 2) (P g) = 1) (hy : 1 < y ∧ y < P g ∧ pm y (P g / 2) (P g) = 1) (h1 : x * y % P g ≠ 1) : 1 < x * y % P g ∧ x * y % P g < P g ∧ pm (x * y % P g) (P g / 2) (P g) = 1 := by
  have hp : 2 < P g := by omega
  have e : pm (x * y % P g) (P g / 2) (P g) = 1 := by rw [pm_mod, pm_prod, hx.2.2, hy.2.2, Nat.mod_eq_of_lt (by omega)]
  refine ⟨?_, Nat.mod_lt _ (by omega), e⟩
  rcases Nat.eq_zero_or_pos (x * y % P g) with h0 | h0
  · rw [h0, pm_nought _ (by omega)] at e
    omega
  · omega

/-- A number in base sixteen: what a letter tells, and what letters come to. -/
def hexd (b : UInt8) : Nat := if 65 ≤ b.toNat then b.toNat - 55 else b.toNat - 48
def hexv (l : List UInt8) : Nat := l.foldl (fun a b => 16 * a + hexd b) 0
theorem hexv_snoc (l : List UInt8) (b : UInt8) : hexv (l ++ [b]) = 16 * hexv l + hexd b := by simp [hexv]
def isHex (b : UInt8) : Bool := (decide (48 ≤ b.toNat) && decide (b.toNat ≤ 57)) || (decide (65 ≤ b.toNat) && decide (b.toNat ≤ 70))
theorem hexd_lt {b : UInt8} (h : isHex b = true) : hexd b < 16 := by
  unfold isHex at h
  unfold hexd
  simp at h
  split <;> omega
theorem hexv_lt (l : List UInt8) (h : ∀ b ∈ l, isHex b = true) : hexv l < 16 ^ l.length := by
  induction l using snoc_ind with
  | h0 => decide
  | hs l b ih =>
    have h1 := ih (fun c hc => h c (by simp [hc]))
    have h2 := hexd_lt (h b (by simp))
    rw [hexv_snoc, List.length_append, List.length_singleton, Nat.pow_succ]
    omega
end Go.Proofs.Ytmbdidompjgaaaa.Num
