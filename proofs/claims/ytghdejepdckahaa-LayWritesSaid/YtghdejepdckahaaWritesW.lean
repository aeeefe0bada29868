/- lodgelaw07.LayWrites answers true, whatever number and whatever text come in, and leaves memory below as it was. No condition. -/
import Derived.Test.YtghdejepdckahaaAwake7
namespace Go.Proofs.Ytghdejepdckahaa
open Go.RowKit
set_option linter.unusedVariables false

set_option maxRecDepth 100000 in
set_option maxHeartbeats 8000000 in
theorem layWrites_big (n : Int) (l : List UInt8) (w : World) (h : ¬ l.length ≤ 2000) :
    Calls Try.prog 3 #[.int .i64 n, .string (tx l)] w fun e w' => e = .returned (.bool true) ∧ Below w.heap.size w w' := by
  have hs : (tx l).size = l.length := tx_size l
  have d0 : decide (2000 < (l.length : Int)) = true := decide_eq_true (by omega)
  go_enter Try.func3, Try.ntmps3
  go_wp2_with fail
  refine (awake7_any _).mono ?_
  rintro e W1 ⟨rfl, hB⟩
  go_wp2
  go_ret
  exact ⟨rfl, hB⟩

set_option maxRecDepth 100000 in
set_option maxHeartbeats 8000000 in
theorem layWrites_in (n : Int) (l : List UInt8) (w : World) (h : l.length ≤ 2000) :
    Calls Try.prog 3 #[.int .i64 n, .string (tx l)] w fun e w' => e = .returned (.bool true) ∧ Below w.heap.size w w' := by
  have hs : (tx l).size = l.length := tx_size l
  have d0 : decide (2000 < (l.length : Int)) = false := decide_eq_false (by omega)
  go_enter Try.func3, Try.ntmps3
  go_wp2_with fail
  refine (awake7_any _).mono ?_
  rintro e W1 ⟨rfl, B⟩
  go_wp2_with fail
  refine (layNum_any _ _).mono ?_
  rintro e W2 ⟨rfl, hb⟩
  replace B := B.trans (hb.mono B.size)
  clear hb
  go_wp2_with fail
  refine (refLayNum_any _ _).mono ?_
  rintro e W3 ⟨rfl, hb⟩
  replace B := B.trans (hb.mono B.size)
  clear hb
  have e1 : ((tx (layN n)).toList == (tx (layN n)).toList) = true := by simp
  go_wp2_with fail
  refine (layText_any _ _ (by omega)).mono ?_
  rintro e W4 ⟨rfl, hb⟩
  replace B := B.trans (hb.mono B.size)
  clear hb
  go_wp2_with fail
  refine (refLayText_any _ _ (by omega)).mono ?_
  rintro e W5 ⟨rfl, hb⟩
  replace B := B.trans (hb.mono B.size)
  clear hb
  have e2 : ((tx (layT l)).toList == (tx (layT l)).toList) = true := by simp
  go_wp2
  go_ret
  exact ⟨rfl, B⟩

theorem layWrites_walk (n : Int) (s : ByteArray) (w : World) (w0 : (Lit.int .i64 n).wf = true) (w1 : s.size ≤ maxLen) : Calls Try.prog 3 #[.int .i64 n, .string s] w fun e w' => e = .returned (.bool true) ∧ Below w.heap.size w w' := by
  rw [tx_of s]
  by_cases h : s.data.toList.length ≤ 2000
  · exact layWrites_in n _ w h
  · exact layWrites_big n _ w h

end Go.Proofs.Ytghdejepdckahaa
