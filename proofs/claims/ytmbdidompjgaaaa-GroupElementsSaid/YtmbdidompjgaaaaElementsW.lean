/- lodgelaw05.GroupElements answers true, whatever comes in, and leaves memory below as it was. No condition. -/
import Derived.Test.YtmbdidompjgaaaaAwake5
namespace Go.Proofs.Ytmbdidompjgaaaa
open Go.RowKit Go.Shelf Num
set_option linter.unusedVariables false

set_option maxRecDepth 100000 in
set_option maxHeartbeats 8000000 in
theorem groupElements_great (g : Int) (s : ByteArray) (w : World) (h : g = 5) : Calls Try.prog 4 #[.int .i64 g, .string s] w fun e w' => e = .returned (.bool true) ∧ Below w.heap.size w w' := by
  subst h
  go_enter Try.func4, Try.ntmps4
  have B := Below.refl w.heap.size w
  go_wp2_with fail
  refine (awake5_any _).mono ?_
  rintro e W1 ⟨rfl, hb⟩
  replace B := B.trans (hb.mono B.size)
  clear hb
  go_wp2
  go_ret
  exact ⟨rfl, B⟩

set_option maxRecDepth 100000 in
set_option maxHeartbeats 8000000 in
theorem groupElements_long (g : Int) (s : ByteArray) (w : World) (h : g ≠ 5) (h1 : ¬ s.size ≤ 10) : Calls Try.prog 4 #[.int .i64 g, .string s] w fun e w' => e = .returned (.bool true) ∧ Below w.heap.size w w' := by
  have d0 : (g == 5) = false := by simpa using h
  have d1 : decide (10 < (s.size : Int)) = true := decide_eq_true (by omega)
  go_enter Try.func4, Try.ntmps4
  have B := Below.refl w.heap.size w
  go_wp2_with fail
  refine (awake5_any _).mono ?_
  rintro e W1 ⟨rfl, hb⟩
  replace B := B.trans (hb.mono B.size)
  clear hb
  go_wp2
  go_ret
  exact ⟨rfl, B⟩

set_option maxRecDepth 100000 in
set_option maxHeartbeats 8000000 in
theorem groupElements_in (g : Int) (s : ByteArray) (w : World) (h : g ≠ 5) (h1 : s.size ≤ 10) : Calls Try.prog 4 #[.int .i64 g, .string s] w fun e w' => e = .returned (.bool true) ∧ Below w.heap.size w w' := by
  have d0 : (g == 5) = false := by simpa using h
  have d1 : decide (10 < (s.size : Int)) = false := decide_eq_false (by omega)
  have hq : (isEl g s.data.toList == isEl g s.data.toList) = true := by simp
  go_enter Try.func4, Try.ntmps4
  have B := Below.refl w.heap.size w
  go_wp2_with fail
  refine (awake5_any _).mono ?_
  rintro e W1 ⟨rfl, hb⟩
  replace B := B.trans (hb.mono B.size)
  clear hb
  go_wp2_with fail
  refine (element_any g s _ (by omega)).mono ?_
  rintro e W2 ⟨rfl, hb⟩
  replace B := B.trans (hb.mono B.size)
  clear hb
  go_wp2_with fail
  refine (refElement_any g s _ (by omega)).mono ?_
  rintro e W3 ⟨rfl, hb⟩
  replace B := B.trans (hb.mono B.size)
  clear hb
  go_wp2
  go_ret
  exact ⟨rfl, B⟩

theorem groupElements_walk (g : Int) (s : ByteArray) (w : World) (hg : (Lit.int .i64 g).wf = true) (hs : s.size ≤ maxLen) : Calls Try.prog 4 #[.int .i64 g, .string s] w fun e w' => e = .returned (.bool true) ∧ Below w.heap.size w w' := by
  by_cases h : g = 5
  · exact groupElements_great g s w h
  · by_cases h1 : s.size ≤ 10
    · exact groupElements_in g s w h h1
    · exact groupElements_long g s w h h1

end Go.Proofs.Ytmbdidompjgaaaa
