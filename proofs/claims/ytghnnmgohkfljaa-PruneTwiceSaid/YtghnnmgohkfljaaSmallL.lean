/- small of this layer's law: may spots be a tree, of at most 128. Condition: the slice reads as spots. -/
import Derived.Test.YtghnnmgohkfljaaRefJ
namespace Go.Proofs.Ytghnnmgohkfljaa
open Go Go.RowKit
set_option linter.unusedVariables false

set_option maxRecDepth 100000 in
set_option maxHeartbeats 4000000 in
theorem smallL_any (xs : List Sp) : ∃ b : Bool, (b = true → ∃ ot, xs = spo ot ∧ okT (spo ot) = true) ∧ (okT xs = true → b = true) ∧ ∀ (v : Value) (w : World), Spots w.heap.size w xs [v] →
    Calls Try.prog 8 #[v] w fun e W' => e = .returned (.bool b) ∧ Below w.heap.size w W' := by
  by_cases h1 : xs.length ≤ 128
  · refine ⟨okT xs, (fun h => ?_), id, fun v w h => ?_⟩
    · obtain ⟨ot, rfl⟩ := spo_of h
      exact ⟨ot, rfl, h⟩
    have HX := Lib.hid h
    obtain ⟨A, cap, rfl, hlc, hcm, -⟩ := spots_at h
    have hd : decide (xs.length ≤ 128) = true := decide_eq_true h1
    have hd2 : decide ((xs.length : Int) ≤ 128) = true := decide_eq_true (by omega)
    clear h hcm
    go_enter Try.func8, Try.ntmps8
    go_wp2_with fail
    refine (refRight_any _ xs w HX.out (by omega)).mono ?_
    rintro e W1 ⟨rfl, B⟩
    go_wp2
    go_ret
    exact ⟨rfl, B⟩
  · refine ⟨false, (fun h => by cases h), (fun h => absurd (okT_parts h).1 h1), fun v w h => ?_⟩
    obtain ⟨A, cap, rfl, hlc, hcm, -⟩ := spots_at h
    have hd : decide (xs.length ≤ 128) = false := decide_eq_false h1
    have hd2 : decide ((xs.length : Int) ≤ 128) = false := decide_eq_false (by omega)
    clear h hcm
    go_enter Try.func8, Try.ntmps8
    go_wp2
    go_ret
    exact ⟨rfl, Below.refl _ _⟩

end Go.Proofs.Ytghnnmgohkfljaa
