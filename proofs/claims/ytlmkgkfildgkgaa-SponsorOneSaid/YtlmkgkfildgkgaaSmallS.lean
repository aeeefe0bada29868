import Derived.Test.YtlmkgkfildgkgaaTreeX
import Derived.Test.YtlmkgkfildgkgaaTreeR
import Derived.Test.YtlmkgkfildgkgaaLabB
import Derived.Test.YtlmkgkfildgkgaaRefJ
/- A law's small(spots), where it asks for at most 128 that may be a tree, at most 60 high (lodgelaw13; the law's package by lodgelaw13). No condition. -/
namespace Go.Proofs.Ytlmkgkfildgkgaa
open Go Go.RowKit
set_option linter.unusedVariables false

set_option maxRecDepth 100000 in
set_option maxHeartbeats 4000000 in
theorem smallS_any (xs : List Sp) : ∃ b : Bool, (b = true → ∃ ot, xs = spo ot ∧ okT (spo ot) = true ∧ htO ot ≤ 60) ∧ ∀ (v : Value) (w : World), Spots w.heap.size w xs [v] →
    Calls Try.prog 6 #[v] w fun e W' => e = .returned (.bool b) ∧ Below w.heap.size w W' := by
  by_cases h1 : xs.length ≤ 128
  · cases hox : okT xs with
    | false =>
      refine ⟨false, (fun h => by cases h), fun v w h => ?_⟩
      have HX := Lib.hid h
      obtain ⟨A, cap, rfl, hlc, hcm, -⟩ := spots_at h
      have hd : decide (xs.length ≤ 128) = true := decide_eq_true h1
      have hd2 : decide ((xs.length : Int) ≤ 128) = true := decide_eq_true (by omega)
      clear h hcm
      go_enter Try.func6, Try.ntmps6
      go_wp2_with fail
      refine (refRight_any _ xs w HX.out (by omega)).mono ?_
      rintro e W1 ⟨rfl, B⟩
      rw [hox]
      clear hox
      go_wp2
      go_ret
      exact ⟨rfl, B⟩
    | true =>
      obtain ⟨ot, rfl⟩ := spo_of hox
      refine ⟨decide (htO ot ≤ 60), (fun h => ⟨ot, rfl, hox, of_decide_eq_true h⟩), fun v w h => ?_⟩
      have HX := Lib.hid h
      have KH : Hid (∀ v w, Spots w.heap.size w (spo ot) [v] → Calls Try.prog 17 #[v] w fun e W' => e = .returned (.int .i64 (htO ot)) ∧ Below w.heap.size w W') := Lib.hid fun v w h => by
        cases ot with
        | none => exact refHeight_nil v w h
        | some t => exact refHeight_flat t v w h (Nat.le_trans h1 (by decide))
      obtain ⟨A, cap, rfl, hlc, hcm, -⟩ := spots_at h
      have hd : decide ((spo ot).length ≤ 128) = true := decide_eq_true h1
      have hd2 : decide (((spo ot).length : Int) ≤ 128) = true := decide_eq_true (by omega)
      clear h hcm
      go_enter Try.func6, Try.ntmps6
      go_wp2_with fail
      refine (refRight_any _ _ w HX.out (by omega)).mono ?_
      rintro e W1 ⟨rfl, B⟩
      rw [hox]
      clear hox
      go_wp2_with fail
      refine (KH.out _ W1 (keeps_spots _ _ _ _ _ _ HX.out B B.size)).mono ?_
      rintro e W2 ⟨rfl, B2⟩
      go_wp2
      go_ret
      exact ⟨rfl, B.trans (B2.mono B.size)⟩
  · refine ⟨false, (fun h => by cases h), fun v w h => ?_⟩
    obtain ⟨A, cap, rfl, hlc, hcm, -⟩ := spots_at h
    have hd : decide (xs.length ≤ 128) = false := decide_eq_false h1
    have hd2 : decide ((xs.length : Int) ≤ 128) = false := decide_eq_false (by omega)
    clear h hcm
    go_enter Try.func6, Try.ntmps6
    go_wp2
    go_ret
    exact ⟨rfl, Below.refl _ _⟩

end Go.Proofs.Ytlmkgkfildgkgaa
