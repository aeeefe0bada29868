import Derived.Test.YtkmlnglmecjmeaaLabB
import Derived.Test.YtkmlnglmecjmeaaTreeKA
/- The document's At and Part of layer 10. Condition: the slice reads as a tree's spots, or nothing's, of at most a million. -/
namespace Go.Proofs.Ytkmlnglmecjmeaa
open Go Go.RowKit
set_option linter.unusedVariables false

theorem sub_cons (l r : Tr) (a b : Int) (c : Bool) (p : List Bool) : sub (.inner a b l r) (c :: p) = (sub (if c then r else l) p).map fun x => ((if c then 1 + (flat l).length else 1) + x.1, x.2) := by
  cases c
  · simp only [sub, Bool.false_eq_true, if_false]
    congr 1
    funext x
    rw [Nat.add_comm]
  · simp only [sub, if_true]
    congr 1
    funext x
    simp only [Prod.mk.injEq, and_true]
    omega

theorem and_one {a : Nat} (h : a < 9223372036854775808) : bits .and .i64 (a : Int) 1 = ((a % 2 : Nat) : Int) := by
  show IntKind.i64.wrap ((BitVec.ofInt 64 (a : Int) &&& BitVec.ofInt 64 1).toNat : Int) = _
  have e1 : (BitVec.ofInt 64 (a : Int)).toNat = a := by rw [BitVec.toNat_ofInt]; omega
  have e2 : (BitVec.ofInt 64 (1 : Int)).toNat = 1 := by decide
  rw [BitVec.toNat_and, e1, e2, Nat.and_one_is_mod, IntKind.wrap_i64]
  omega
theorem bit_is (i j : Nat) (h : i < 1152921504606846977) : (bits .and .i64 ((i : Int) / 2 ^ j) 1 == 0) = !decide (i / 2 ^ j % 2 = 1) := by
  have e : (i : Int) / 2 ^ j = ((i / 2 ^ j : Nat) : Int) := by simp
  have hle : i / 2 ^ j ≤ i := Nat.div_le_self _ _
  rw [e, and_one (by omega)]
  rcases Nat.mod_two_eq_zero_or_one (i / 2 ^ j) with h | h
  · rw [h]; rfl
  · rw [h]; rfl


/-- A label's spot and part are there both, or neither. -/
theorem at_part (ot : Option Tr) (L I : Int) : (atO ot L I = -1 ∧ partO ot L I = []) ∨ ∃ (o : Nat) (u : Tr), atO ot L I = (o : Int) ∧ partO ot L I = flat u ∧ o + (flat u).length ≤ (spo ot).length ∧ ((spo ot).drop o).take (flat u).length = flat u ∧ endI (spo ot) (o : Int) = ((o + (flat u).length : Nat) : Int) := by
  unfold atO partO
  by_cases ho : okL L I = true
  · rw [if_pos ho, if_pos ho]
    cases ot with
    | none => exact Or.inl ⟨rfl, rfl⟩
    | some t =>
      cases hs : sub t (path L.toNat I.toNat) with
      | none => left; simp [subO, hs]
      | some x =>
        obtain ⟨o, u⟩ := x
        right
        obtain ⟨h1, h2⟩ := sub_part hs
        exact ⟨o, u, by simp [subO, hs], by simp [subO, hs], sub_le hs, h1, h2⟩
  · rw [if_neg ho, if_neg ho]
    exact Or.inl ⟨rfl, rfl⟩

end Go.Proofs.Ytkmlnglmecjmeaa
