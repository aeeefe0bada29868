/- lodgelaw07.LayBack answers true, whatever number and whatever texts come in, and leaves memory below as it was. No condition. -/
import Derived.Test.YtghdejepdckahaaAwake7
import Derived.Test.YtghdejepdckahaaLayP
namespace Go.Proofs.Ytghdejepdckahaa
open Go.RowKit
set_option linter.unusedVariables false

set_option maxRecDepth 100000 in
set_option maxHeartbeats 8000000 in
theorem layBack_out (n : Int) (s m : List UInt8) (w : World) (h : ¬ (0 ≤ n ∧ n < 2147483648 ∧ s.length ≤ 500 ∧ m.length ≤ 100)) :
    Calls Try.prog 5 #[.int .i64 n, .string (tx s), .string (tx m)] w fun e w' => e = .returned (.bool true) ∧ Below w.heap.size w w' := by
  have hs : (tx s).size = s.length := tx_size s
  have hm : (tx m).size = m.length := tx_size m
  by_cases h0 : 0 ≤ n
  · have d0 : decide (n < 0) = false := decide_eq_false (by omega)
    by_cases h1 : n < 2147483648
    · have d1 : decide (2147483648 ≤ n) = false := decide_eq_false (by omega)
      by_cases h2 : s.length ≤ 500
      · have d2 : decide (500 < (s.length : Int)) = false := decide_eq_false (by omega)
        have d3 : decide (100 < (m.length : Int)) = true := decide_eq_true (by omega)
        clear h
        go_enter Try.func5, Try.ntmps5
        go_wp2_with fail
        refine (awake7_any _).mono ?_
        rintro e W1 ⟨rfl, hB⟩
        go_wp2
        go_ret
        exact ⟨rfl, hB⟩
      · have d2 : decide (500 < (s.length : Int)) = true := decide_eq_true (by omega)
        clear h
        go_enter Try.func5, Try.ntmps5
        go_wp2_with fail
        refine (awake7_any _).mono ?_
        rintro e W1 ⟨rfl, hB⟩
        go_wp2
        go_ret
        exact ⟨rfl, hB⟩
    · have d1 : decide (2147483648 ≤ n) = true := decide_eq_true (by omega)
      clear h
      go_enter Try.func5, Try.ntmps5
      go_wp2_with fail
      refine (awake7_any _).mono ?_
      rintro e W1 ⟨rfl, hB⟩
      go_wp2
      go_ret
      exact ⟨rfl, hB⟩
  · have d0 : decide (n < 0) = true := decide_eq_true (by omega)
    clear h
    go_enter Try.func5, Try.ntmps5
    go_wp2_with fail
    refine (awake7_any _).mono ?_
    rintro e W1 ⟨rfl, hB⟩
    go_wp2
    go_ret
    exact ⟨rfl, hB⟩

set_option maxRecDepth 100000 in
set_option maxHeartbeats 8000000 in
theorem layBack_in (n : Nat) (s m : List UInt8) (w : World) (hn : n < 2147483648) (h2 : s.length ≤ 500) (h3 : m.length ≤ 100) :
    Calls Try.prog 5 #[.int .i64 (n : Int), .string (tx s), .string (tx m)] w fun e w' => e = .returned (.bool true) ∧ Below w.heap.size w w' := by
  have hs : (tx s).size = s.length := tx_size s
  have hm : (tx m).size = m.length := tx_size m
  have d0 : decide ((n : Int) < 0) = false := decide_eq_false (by omega)
  have d1 : decide ((2147483648 : Int) ≤ (n : Int)) = false := decide_eq_false (by omega)
  have d2 : decide (500 < (s.length : Int)) = false := decide_eq_false (by omega)
  have d3 : decide (100 < (m.length : Int)) = false := decide_eq_false (by omega)
  have r1 := tx_room (a := layN (n : Int)) (b := layT s) (by rw [layN_length, layT_length]; omega)
  have r2 : ¬ (9223372036854775807 < (tx (layN (n : Int))).size + (tx (layT s)).size + m.length) := by
    rw [tx_size, tx_size, layN_length, layT_length]; omega
  go_enter Try.func5, Try.ntmps5
  go_wp2_with fail
  refine (layNum_any _ _).mono ?_
  rintro e W1 ⟨rfl, B⟩
  go_wp2_with fail
  refine (layText_any _ _ (by omega)).mono ?_
  rintro e W2 ⟨rfl, hb⟩
  replace B := B.trans (hb.mono B.size)
  clear hb
  have hall : tx (layN (n : Int)) ++ tx (layT s) ++ tx m = tx (layN (n : Int) ++ (layT s ++ m)) := by rw [tx_app, tx_app, List.append_assoc]
  go_wp2_with fail
  clear hall r1 r2
  have h0 := leftAt_new W2 (tx (layN (n : Int) ++ (layT s ++ m))) _ 29 rfl
  have hb := below_new W2 (.cells #[.string (tx (layN (n : Int) ++ (layT s ++ m))), .bool false] 29)
  have hg : w.heap.size ≤ W2.heap.size := B.size
  generalize W2.alloc (.cells #[.string (tx (layN (n : Int) ++ (layT s ++ m))), .bool false] 29) = W3 at *
  replace B := B.trans (hb.mono B.size)
  clear hb
  generalize W2.heap.size = g at *
  have hN : hasN (layN (n : Int) ++ (layT s ++ m)) false (n : Int) := by
    refine ⟨rfl, ?_, ?_, ?_⟩
    · rw [List.length_append, layN_length]; omega
    · rw [nb4_layN hn]; exact hn
    · rw [nb4_layN hn]; exact Int.le_refl _
  have hlen : (layN (n : Int) ++ (layT s ++ m)).length ≤ 9223372036854775807 := by
    rw [List.length_append, List.length_append, layN_length, layT_length]; omega
  have c1 := leftNum_is g _ _ _ _ h0 hlen hN
  rw [nb4_layN hn, drop_layN] at c1
  refine c1.mono ?_
  clear c1 hN hlen h0
  rintro e W4 ⟨rfl, h1, o1⟩
  replace B := only_below B hg o1
  clear o1
  have hT : hasT (layT s ++ m) false ((s.length : Nat) : Int) := by
    refine ⟨⟨rfl, ?_, ?_, ?_⟩, ?_⟩
    · rw [List.length_append, layT_length]; omega
    · rw [nb4_layT (by omega)]; omega
    · rw [nb4_layT (by omega)]; exact Int.le_refl _
    · rw [nb4_layT (by omega), List.length_append, layT_length]; omega
  have c2 := leftText_is g _ _ _ _ h1 (by rw [List.length_append, layT_length]; omega) hT
  rw [nb4_layT (by omega), drop_layT, List.take_left, List.drop_left] at c2
  have C2 := Lib.hid c2
  clear c2 hT h1
  go_wp2_with fail
  refine C2.out.mono ?_
  rintro e W5 ⟨rfl, h5, o5⟩
  replace B := only_below B hg o5
  clear o5 C2
  obtain ⟨s5, g5, f50, f51⟩ := id h5
  have q1 : ((n : Int) != (n : Int)) = false := by simp
  have q2 : ((tx s).toList != (tx s).toList) = false := by simp
  have q3 : ((tx m).toList != (tx m).toList) = false := by simp
  have q4 : (tx m).toList.isEmpty = m.isEmpty := by rw [tx_list]
  have q5 : (m.isEmpty != m.isEmpty) = false := by simp
  go_wp2_with fail
  refine (leftDone_any _ _ _ _ h5).mono ?_
  rintro e w' ⟨rfl, rfl⟩
  clear s5 g5 f50 f51
  go_wp2_with fail
  refine (layNum_any _ _).mono ?_
  rintro e W6 ⟨rfl, hb⟩
  replace B := B.trans (hb.mono B.size)
  clear hb h5
  go_wp2_with fail
  have k0 := leftAt_new W6 (tx (layN (n : Int))) _ 29 rfl
  have hb := below_new W6 (.cells #[.string (tx (layN (n : Int))), .bool false] 29)
  have hg6 : w.heap.size ≤ W6.heap.size := B.size
  generalize W6.alloc (.cells #[.string (tx (layN (n : Int))), .bool false] 29) = W7 at *
  replace B := B.trans (hb.mono B.size)
  clear hb
  generalize W6.heap.size = g6 at *
  have hN6 : ¬ hasN (layN (n : Int)) false ((n : Int) - 1) := fun hx => by
    have := hx.2.2.2
    rw [← List.append_nil (layN (n : Int)), nb4_layN hn] at this
    omega
  refine (leftNum_not g6 _ _ _ _ k0 (by rw [layN_length]; omega) hN6).mono ?_
  clear hN6 k0
  rintro e W8 ⟨rfl, k8, o8⟩
  replace B := only_below B hg6 o8
  clear o8
  go_wp2_with fail
  refine (awake7_any _).mono ?_
  rintro e W9 ⟨rfl, hb⟩
  have k9 := (k8.next hb).cell
  replace B := B.trans (hb.mono B.size)
  clear hb k8
  go_wp2
  go_ret
  exact ⟨rfl, B⟩

theorem layBack_walk (n : Int) (s m : ByteArray) (w : World) (w0 : (Lit.int .i64 n).wf = true) (w1 : s.size ≤ maxLen) (w2 : m.size ≤ maxLen) :
    Calls Try.prog 5 #[.int .i64 n, .string s, .string m] w fun e w' => e = .returned (.bool true) ∧ Below w.heap.size w w' := by
  rw [tx_of s, tx_of m]
  by_cases h : 0 ≤ n ∧ n < 2147483648 ∧ s.data.toList.length ≤ 500 ∧ m.data.toList.length ≤ 100
  · obtain ⟨h0, h1, h2, h3⟩ := h
    obtain ⟨N, rfl⟩ := Int.eq_ofNat_of_zero_le h0
    exact layBack_in N _ _ w (by omega) h2 h3
  · exact layBack_out n _ _ w h

end Go.Proofs.Ytghdejepdckahaa
