import Derived.Test.YtkmlnglmecjmeaaTreeKA
/- Slices of spots and members by their lengths; the first spots. Condition: the slice reads as spots (members). -/
namespace Go.Proofs.Ytkmlnglmecjmeaa
open Go Go.RowKit
set_option linter.unusedVariables false

theorem spots_nil (w : World) : Spots w.heap.size w [] [.slice none 0 0] := own_spots (World.ownsRow_nil _ w.heap.size _ _)
theorem spots_len {n : Nat} {w : World} {xs : List Sp} {v : Value} (h : Spots n w xs [v]) (m : Nat) (hm : xs.length = m) : ∃ A cap, v = .slice A m cap ∧ m ≤ cap ∧ cap ≤ 9223372036854775807 := by
  obtain ⟨A, cap, e, h1, h2, _⟩ := spots_at h
  subst hm
  exact ⟨A, cap, e, h1, Nat.le_trans h2 (by decide)⟩
theorem mems_len {n : Nat} {w : World} {xs : List (Int × Int)} {v : Value} (h : Mems n w xs [v]) (m : Nat) (hm : xs.length = m) : ∃ A cap, v = .slice A m cap ∧ m ≤ cap ∧ cap ≤ 9223372036854775807 := by
  obtain ⟨A, cap, e, h1, h2, _⟩ := mems_at h
  subst hm
  exact ⟨A, cap, e, h1, Nat.le_trans h2 (by decide)⟩
set_option maxRecDepth 100000 in
/-- The first j spots. -/
theorem cut_to {n : Nat} {w : World} {xs : List Sp} {A : Option Addr} {m cap : Nat} (h : Spots n w xs [.slice A m cap]) (hm : xs.length = m) (hc : m ≤ cap) (j : Nat) (hj : j ≤ m) :
    ∃ A', (∀ wx, (Instr.slice 32 (.slice A m cap) none (some (.int .i64 (j : Int))) none).run Try.prog wx = .ok (.slice A' j cap) wx) ∧ Spots n w (xs.take j) [.slice A' j cap] := by
  subst hm
  have hS := slice_cut h 0 j (Nat.zero_le _) hj
  obtain ⟨A', e⟩ := sliced_is A 0 j cap 3
  rw [Nat.sub_zero, Nat.sub_zero] at e
  refine ⟨A', fun wx => ?_, ?_⟩
  · rw [run_slice_h _ _ _ _ _ Try.underlying32 _ _ (by omega) (by omega)]
    have es : (sizeOf (Try.prog.elem 32)).run Try.prog wx = .ok 3 wx := Try.sizeOf56 wx
    rw [es]
    simp only [Result.andThen, Int.toNat_natCast, e]
  · rw [e, Nat.sub_zero, List.drop_zero] at hS
    exact hS

end Go.Proofs.Ytkmlnglmecjmeaa
