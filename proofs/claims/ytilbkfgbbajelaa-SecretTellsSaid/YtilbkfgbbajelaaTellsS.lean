/- lodgelaw06.SecretTells answers true, whatever comes in, and leaves memory below as it was. No condition. -/
import Derived.Test.YtilbkfgbbajelaaAwake6
namespace Go.Proofs.Ytilbkfgbbajelaa
open Go.RowKit Go.Shelf Num
set_option linter.unusedVariables false

set_option maxRecDepth 100000 in
set_option maxHeartbeats 2000000 in
theorem secretTells_great (g : Int) (s t : ByteArray) (w : World) (h : g = 5) : Calls Try.prog 3 #[.int .i64 g, .string s, .string t] w fun e w' => e = .returned (.bool true) ∧ Below w.heap.size w w' := by
  subst h
  go_enter Try.func3, Try.ntmps3
  have B := Below.refl w.heap.size w
  go_wp2_with fail
  refine (awake6_any _).mono ?_
  rintro e W1 ⟨rfl, hb⟩
  replace B := B.trans (hb.mono B.size)
  clear hb
  go_wp2
  go_ret
  exact ⟨rfl, B⟩

set_option maxRecDepth 100000 in
set_option maxHeartbeats 2000000 in
theorem secretTells_longs (g : Int) (s t : ByteArray) (w : World) (h : g ≠ 5) (h1 : ¬ s.size ≤ 10) : Calls Try.prog 3 #[.int .i64 g, .string s, .string t] w fun e w' => e = .returned (.bool true) ∧ Below w.heap.size w w' := by
  have d0 : (g == 5) = false := by simpa using h
  have d1 : decide (10 < (s.size : Int)) = true := decide_eq_true (by omega)
  go_enter Try.func3, Try.ntmps3
  have B := Below.refl w.heap.size w
  go_wp2_with fail
  refine (awake6_any _).mono ?_
  rintro e W1 ⟨rfl, hb⟩
  replace B := B.trans (hb.mono B.size)
  clear hb
  go_wp2
  go_ret
  exact ⟨rfl, B⟩

set_option maxRecDepth 100000 in
set_option maxHeartbeats 2000000 in
theorem secretTells_longt (g : Int) (s t : ByteArray) (w : World) (h : g ≠ 5) (h1 : s.size ≤ 10) (h2 : ¬ t.size ≤ 10) : Calls Try.prog 3 #[.int .i64 g, .string s, .string t] w fun e w' => e = .returned (.bool true) ∧ Below w.heap.size w w' := by
  have d0 : (g == 5) = false := by simpa using h
  have d1 : decide (10 < (s.size : Int)) = false := decide_eq_false (by omega)
  have d2 : decide (10 < (t.size : Int)) = true := decide_eq_true (by omega)
  go_enter Try.func3, Try.ntmps3
  have B := Below.refl w.heap.size w
  go_wp2_with fail
  refine (awake6_any _).mono ?_
  rintro e W1 ⟨rfl, hb⟩
  replace B := B.trans (hb.mono B.size)
  clear hb
  go_wp2
  go_ret
  exact ⟨rfl, B⟩

set_option maxRecDepth 100000 in
set_option maxHeartbeats 2000000 in
theorem secretTells_in (g : Int) (s t : ByteArray) (w : World) (h : g ≠ 5) (h1 : s.size ≤ 10) (h2 : t.size ≤ 10) : Calls Try.prog 3 #[.int .i64 g, .string s, .string t] w fun e w' => e = .returned (.bool true) ∧ Below w.heap.size w w' := by
  have d0 : (g == 5) = false := by simpa using h
  have d1 : decide (10 < (s.size : Int)) = false := decide_eq_false (by omega)
  have d2 : decide (10 < (t.size : Int)) = false := decide_eq_false (by omega)
  have hq : (isS g s.data.toList == isS g s.data.toList) = true := by simp
  have hq2 : ∀ n, ((txt n).toList == (txt n).toList) = true := fun n => by simp
  go_enter Try.func3, Try.ntmps3
  have B := Below.refl w.heap.size w
  go_wp2_with fail
  refine (awake6_any _).mono ?_
  rintro e W1 ⟨rfl, hb⟩
  replace B := B.trans (hb.mono B.size)
  clear hb
  go_wp2_with fail
  refine (sright_any g s _).mono ?_
  rintro e W2 ⟨rfl, hb⟩
  replace B := B.trans (hb.mono B.size)
  clear hb
  go_wp2_with fail
  refine (refSright_any g s _ (by omega)).mono ?_
  rintro e W3 ⟨rfl, hb⟩
  replace B := B.trans (hb.mono B.size)
  clear hb
  go_wp2_with fail
  refine (sreduce_any g s _ (by omega)).mono ?_
  rintro e W4 ⟨rfl, hb⟩
  replace B := B.trans (hb.mono B.size)
  clear hb
  go_wp2_with fail
  refine (refSreduce_any g s _ (by omega)).mono ?_
  rintro e W5 ⟨rfl, hb⟩
  replace B := B.trans (hb.mono B.size)
  clear hb
  go_wp2_with fail
  refine (sblind_any g s _ (by omega)).mono ?_
  rintro e W6 ⟨rfl, hb⟩
  replace B := B.trans (hb.mono B.size)
  clear hb
  go_wp2_with fail
  refine (refSblind_any g s _ (by omega)).mono ?_
  rintro e W7 ⟨rfl, hb⟩
  replace B := B.trans (hb.mono B.size)
  clear hb
  go_wp2_with fail
  refine (sagree_any g s t _ (by omega) (by omega)).mono ?_
  rintro e W8 ⟨rfl, hb⟩
  replace B := B.trans (hb.mono B.size)
  clear hb
  go_wp2_with fail
  refine (refSagree_any g s t _ (by omega) (by omega)).mono ?_
  rintro e W9 ⟨rfl, hb⟩
  replace B := B.trans (hb.mono B.size)
  clear hb
  go_wp2
  go_ret
  exact ⟨rfl, B⟩

theorem secretTells_walk (g : Int) (s t : ByteArray) (w : World) (hg : (Lit.int .i64 g).wf = true) (hs : s.size ≤ maxLen) (ht : t.size ≤ maxLen) : Calls Try.prog 3 #[.int .i64 g, .string s, .string t] w fun e w' => e = .returned (.bool true) ∧ Below w.heap.size w w' := by
  by_cases h : g = 5
  · exact secretTells_great g s t w h
  · by_cases h1 : s.size ≤ 10
    · by_cases h2 : t.size ≤ 10
      · exact secretTells_in g s t w h h1 h2
      · exact secretTells_longt g s t w h h1 h2
    · exact secretTells_longs g s t w h h1

end Go.Proofs.Ytilbkfgbbajelaa
