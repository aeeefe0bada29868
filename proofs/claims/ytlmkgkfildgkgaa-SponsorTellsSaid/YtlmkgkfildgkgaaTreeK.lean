import Derived.Test.YtlmkgkfildgkgaaTreeJ
import Derived.Deep.RegionWith
/- Halves and heights of trees; lodge/tree's and the document's. Condition: the slice reads as a tree's spots, of at most a million. -/
namespace Go.Proofs.Ytlmkgkfildgkgaa
open Go Go.RowKit
set_option linter.unusedVariables false

theorem sliced_is (A : Option Addr) (l h m s : Nat) : ∃ A', sliced A l h m s = .slice A' (h - l) (m - l) := ⟨_, rfl⟩
set_option maxRecDepth 100000 in
/-- Spots from the i-th on. -/
theorem cut_from {n : Nat} {w : World} {xs : List Sp} {A : Option Addr} {cap : Nat} (h : Spots n w xs [.slice A xs.length cap]) (i : Nat) (hi : i ≤ xs.length) :
    ∃ A', (∀ wx, (Instr.slice 22 (.slice A xs.length cap) (some (.int .i64 (i : Int))) none none).run Try.prog wx = .ok (.slice A' (xs.length - i) (cap - i)) wx) ∧ Spots n w (xs.drop i) [.slice A' (xs.length - i) (cap - i)] := by
  have hS := slice_cut h i xs.length hi (Nat.le_refl _)
  obtain ⟨A', e⟩ := sliced_is A i xs.length cap 3
  refine ⟨A', fun wx => ?_, ?_⟩
  · rw [run_slice_l _ _ _ _ _ Try.underlying22 _ _ (by omega) (by omega)]
    have es : (sizeOf (Try.prog.elem 22)).run Try.prog wx = .ok 3 wx := Try.sizeOf41 wx
    rw [es]
    simp only [Result.andThen, Int.toNat_natCast, e]
  · rw [e, List.take_of_length_le (by simp)] at hS
    exact hS
set_option maxRecDepth 100000 in
/-- Spots from the i-th to ahead of the j-th. -/
theorem cut_mid {n : Nat} {w : World} {xs : List Sp} {A : Option Addr} {cap : Nat} (h : Spots n w xs [.slice A xs.length cap]) (hc : xs.length ≤ cap) (i j : Nat) (hij : i ≤ j) (hj : j ≤ xs.length) :
    ∃ A', (∀ wx, (Instr.slice 22 (.slice A xs.length cap) (some (.int .i64 (i : Int))) (some (.int .i64 (j : Int))) none).run Try.prog wx = .ok (.slice A' (j - i) (cap - i)) wx) ∧ Spots n w ((xs.drop i).take (j - i)) [.slice A' (j - i) (cap - i)] := by
  have hS := slice_cut h i j hij hj
  obtain ⟨A', e⟩ := sliced_is A i j cap 3
  refine ⟨A', fun wx => ?_, ?_⟩
  · rw [run_slice_lh _ _ _ _ _ Try.underlying22 _ _ _ _ (by omega) (by omega) (by omega)]
    have es : (sizeOf (Try.prog.elem 22)).run Try.prog wx = .ok 3 wx := Try.sizeOf41 wx
    rw [es]
    simp only [Result.andThen, Int.toNat_natCast, e]
  · rw [e] at hS
    exact hS



theorem flat_inner_len (a b : Int) (l r : Tr) : (flat (.inner a b l r)).length = 1 + (flat l).length + (flat r).length := by
  simp only [flat, List.length_cons, List.length_append]; omega
theorem drop_left (a b : Int) (l r : Tr) : ((flat (.inner a b l r)).drop 1).take (1 + (flat l).length - 1) = flat l := by
  have e : (flat (.inner a b l r)).drop 1 = flat l ++ flat r := rfl
  rw [e, Nat.add_sub_cancel_left, List.take_left]
theorem drop_right (a b : Int) (l r : Tr) : (flat (.inner a b l r)).drop (1 + (flat l).length) = flat r := by
  have e : flat (.inner a b l r) = [(false, a, b)] ++ flat l ++ flat r := by simp [flat]
  rw [e, show 1 + (flat l).length = ([(false, a, b)] ++ flat l).length by simp [Nat.add_comm], List.drop_left]
theorem endI_left (a b : Int) (l r : Tr) : endI (flat (.inner a b l r)) 1 = ((1 + (flat l).length : Nat) : Int) :=
  endI_part (flat (.inner a b l r)) 1 l (flat r) rfl


end Go.Proofs.Ytlmkgkfildgkgaa
