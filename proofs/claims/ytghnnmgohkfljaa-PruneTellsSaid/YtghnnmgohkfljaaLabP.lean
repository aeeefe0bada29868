/- What layer 10's calls answer, plainly: of labels, and of trees that may be nothing. Of no program. No condition. -/
import Derived.Test.YtghnnmgohkfljaaLabN
namespace Go.Proofs.Ytghnnmgohkfljaa
open Go.RowKit
set_option linter.unusedVariables false

/-- The spots of a tree, or of nothing. -/
def spo : Option Tr → List Sp
  | none => []
  | some t => flat t
def subO : Option Tr → List Bool → Option (Nat × Tr)
  | none, _ => none
  | some t, p => sub t p
def offO : Option Tr → Int × Int → Option (List Bool)
  | none, _ => none
  | some t, m => off t m
/-- How high: of nothing -1. -/
def htO : Option Tr → Int
  | none => -1
  | some t => ht t
theorem spo_of {xs : List Sp} (h : okT xs = true) : ∃ ot, xs = spo ot := by
  by_cases hp : xs = []
  · exact ⟨none, hp⟩
  · obtain ⟨t, rfl⟩ := okT_flat h hp
    exact ⟨some t, rfl⟩
/-- What a label is a half of, and the other half. -/
def upL (L I : Int) : (Int × Int) × Bool := if okL L I && decide (L ≠ 0) then ((L - 1, I / 2), true) else ((0, 0), false)
def besL (L I : Int) : (Int × Int) × Bool := if okL L I && decide (L ≠ 0) then ((L, if I % 2 = 0 then I + 1 else I - 1), true) else ((0, 0), false)
/-- The spot of a label, the part at it. -/
def atO (ot : Option Tr) (L I : Int) : Int := if okL L I then (match subO ot (path L.toNat I.toNat) with | some x => (x.1 : Int) | none => -1) else -1
def partO (ot : Option Tr) (L I : Int) : List Sp := if okL L I then (match subO ot (path L.toNat I.toNat) with | some x => flat x.2 | none => []) else []
def labOf (p : List Bool) : Int × Int := ((p.length : Int), (idx p : Int))
/-- A member's label, and the way up from it. -/
def ofO (ot : Option Tr) (m : Int × Int) : (Int × Int) × Bool := match offO ot m with
  | some p => (labOf p, true)
  | none => ((0, 0), false)
def ups : Nat → Nat → List (Int × Int)
  | 0, i => [(0, (i : Int))]
  | k + 1, i => (((k + 1 : Nat) : Int), (i : Int)) :: ups k (i / 2)
def wayO (ot : Option Tr) (m : Int × Int) : List (Int × Int) := match offO ot m with
  | some p => ups p.length (idx p)
  | none => []
theorem ups_length (k : Nat) : ∀ i, (ups k i).length = k + 1 := by
  induction k with
  | zero => intro i; rfl
  | succ k ih => intro i; simp [ups, ih]
theorem ups_get (k : Nat) : ∀ i j : Nat, (hj : j < (ups k i).length) → (ups k i)[j] = (((k - j : Nat) : Int), ((i / 2 ^ j : Nat) : Int)) := by
  induction k with
  | zero =>
    intro i j hj
    have : j = 0 := by simp [ups] at hj; omega
    subst this
    simp [ups]
  | succ k ih =>
    intro i j hj
    cases j with
    | zero => simp [ups]
    | succ j =>
      simp only [ups, List.getElem_cons_succ]
      rw [ih (i / 2) j (by simpa [ups] using hj), Nat.div_div_eq_div_mul, Nat.pow_succ, Nat.mul_comm 2]
      congr 2
      omega
theorem upL_yes {k i : Nat} (h1 : k + 1 ≤ 60) (h2 : i < 2 ^ (k + 1)) : upL ((k + 1 : Nat) : Int) (i : Int) = (((k : Int), ((i / 2 : Nat) : Int)), true) := by
  unfold upL
  rw [okL_nat h1 h2]
  have : ((k + 1 : Nat) : Int) ≠ 0 := by omega
  rw [if_pos (by simp only [Bool.true_and, decide_eq_true_eq]; exact this)]
  congr 2
  omega
theorem atO_nat (ot : Option Tr) {k i : Nat} (h1 : k ≤ 60) (h2 : i < 2 ^ k) : atO ot (k : Int) (i : Int) = match subO ot (path k i) with | some x => (x.1 : Int) | none => -1 := by
  unfold atO
  rw [okL_nat h1 h2]
  simp
theorem partO_nat (ot : Option Tr) {k i : Nat} (h1 : k ≤ 60) (h2 : i < 2 ^ k) : partO ot (k : Int) (i : Int) = match subO ot (path k i) with | some x => flat x.2 | none => [] := by
  unfold partO
  rw [okL_nat h1 h2]
  simp

end Go.Proofs.Ytghnnmgohkfljaa
