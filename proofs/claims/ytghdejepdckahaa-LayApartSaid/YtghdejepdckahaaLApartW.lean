/- lodgelaw07.LayApart answers true, whatever two numbers and whatever texts come in, and leaves memory below as it was. No condition. -/
import Derived.Test.YtghdejepdckahaaAwake7
import Derived.Test.YtghdejepdckahaaLayP
import Derived.Test.YtghdejepdckahaaOpens
namespace Go.Proofs.Ytghdejepdckahaa
open Go.RowKit
set_option linter.unusedVariables false

theorem opens_two : Opens Try.prog 32 (Arr 2 1 (IsInt .i64)) := opens_arr Try.underlying32 (by kernel_rfl) (by kernel_rfl) (opens_int Try.underlying3)
theorem begins_same {s t : List UInt8} (hs : s.length ≤ 500) (ht : t.length ≤ 500) : ((layT t).take (layT s).length == layT s) = (s == t) := by
  by_cases h : s = t
  · subst h; simp
  · have h1 : (s == t) = false := by simpa using h
    have h2 : ¬ (layT t).take (layT s).length = layT s := fun e => h (layT_begins (by omega) (by omega) e)
    rw [h1]; simpa using h2

set_option maxRecDepth 100000 in
set_option maxHeartbeats 8000000 in
theorem layApart_out (a b : Int) (s t : List UInt8) (w : World) (h : ¬ (0 ≤ a ∧ 0 ≤ b ∧ a < 2147483648 ∧ b < 2147483648 ∧ s.length ≤ 500 ∧ t.length ≤ 500)) :
    Calls Try.prog 6 #[.agg #[.int .i64 a, .int .i64 b], .string (tx s), .string (tx t)] w fun e w' => e = .returned (.bool true) ∧ Below w.heap.size w w' := by
  have hs : (tx s).size = s.length := tx_size s
  have ht : (tx t).size = t.length := tx_size t
  have HF : ∀ W1 : World, ∀ nq : Nat, Below ((w.alloc (.cells #[.int .i64 a, .int .i64 b] 32)).drewN nq).heap.size ((w.alloc (.cells #[.int .i64 a, .int .i64 b] 32)).drewN nq) W1 → Below w.heap.size w W1 := fun W1 nq hb =>
    (below_new w (.cells #[.int .i64 a, .int .i64 b] 32)).trans (Below.trans (b := (w.alloc (.cells #[.int .i64 a, .int .i64 b] 32)).drewN nq) ⟨rfl, rfl, rfl, Nat.le_refl _, fun _ _ => rfl⟩ (hb.mono (by show w.heap.size ≤ (w.alloc _).heap.size; simp)))
  by_cases h0 : 0 ≤ a
  · have d0 : decide (a < 0) = false := decide_eq_false (by omega)
    by_cases h1 : 0 ≤ b
    · have d1 : decide (b < 0) = false := decide_eq_false (by omega)
      by_cases h2 : a < 2147483648
      · have d2 : decide (2147483648 ≤ a) = false := decide_eq_false (by omega)
        by_cases h3 : b < 2147483648
        · have d3 : decide (2147483648 ≤ b) = false := decide_eq_false (by omega)
          by_cases h4 : s.length ≤ 500
          · have d4 : decide (500 < (s.length : Int)) = false := decide_eq_false (by omega)
            have d5 : decide (500 < (t.length : Int)) = true := decide_eq_true (by omega)
            clear h
            go_enter Try.func6, Try.ntmps6
            go_wp2_with fail
            go_quiet (fail)
            go_wp2_with fail
            refine (awake7_any _).mono ?_
            rintro e W1 ⟨rfl, hB⟩
            go_wp2
            go_ret
            exact ⟨rfl, HF _ _ hB⟩
          · have d4 : decide (500 < (s.length : Int)) = true := decide_eq_true (by omega)
            clear h
            go_enter Try.func6, Try.ntmps6
            go_wp2_with fail
            go_quiet (fail)
            go_wp2_with fail
            refine (awake7_any _).mono ?_
            rintro e W1 ⟨rfl, hB⟩
            go_wp2
            go_ret
            exact ⟨rfl, HF _ _ hB⟩
        · have d3 : decide (2147483648 ≤ b) = true := decide_eq_true (by omega)
          clear h
          go_enter Try.func6, Try.ntmps6
          go_wp2_with fail
          go_quiet (fail)
          go_wp2_with fail
          refine (awake7_any _).mono ?_
          rintro e W1 ⟨rfl, hB⟩
          go_wp2
          go_ret
          exact ⟨rfl, HF _ _ hB⟩
      · have d2 : decide (2147483648 ≤ a) = true := decide_eq_true (by omega)
        clear h
        go_enter Try.func6, Try.ntmps6
        go_wp2_with fail
        go_quiet (fail)
        go_wp2_with fail
        refine (awake7_any _).mono ?_
        rintro e W1 ⟨rfl, hB⟩
        go_wp2
        go_ret
        exact ⟨rfl, HF _ _ hB⟩
    · have d1 : decide (b < 0) = true := decide_eq_true (by omega)
      clear h
      go_enter Try.func6, Try.ntmps6
      go_wp2_with fail
      go_quiet (fail)
      go_wp2_with fail
      refine (awake7_any _).mono ?_
      rintro e W1 ⟨rfl, hB⟩
      go_wp2
      go_ret
      exact ⟨rfl, HF _ _ hB⟩
  · have d0 : decide (a < 0) = true := decide_eq_true (by omega)
    clear h
    go_enter Try.func6, Try.ntmps6
    go_wp2_with fail
    go_quiet (fail)
    go_wp2_with fail
    refine (awake7_any _).mono ?_
    rintro e W1 ⟨rfl, hB⟩
    go_wp2
    go_ret
    exact ⟨rfl, HF _ _ hB⟩

set_option maxRecDepth 100000 in
set_option maxHeartbeats 8000000 in
theorem layApart_in (a b : Nat) (s t : List UInt8) (w : World) (h0 : a < 2147483648) (h1 : b < 2147483648) (h2 : s.length ≤ 500) (h3 : t.length ≤ 500) :
    Calls Try.prog 6 #[.agg #[.int .i64 (a : Int), .int .i64 (b : Int)], .string (tx s), .string (tx t)] w fun e w' => e = .returned (.bool true) ∧ Below w.heap.size w w' := by
  have hs : (tx s).size = s.length := tx_size s
  have ht : (tx t).size = t.length := tx_size t
  have d0 : decide ((a : Int) < 0) = false := decide_eq_false (by omega)
  have d1 : decide ((b : Int) < 0) = false := decide_eq_false (by omega)
  have d2 : decide ((2147483648 : Int) ≤ (a : Int)) = false := decide_eq_false (by omega)
  have d3 : decide ((2147483648 : Int) ≤ (b : Int)) = false := decide_eq_false (by omega)
  have d4 : decide (500 < (s.length : Int)) = false := decide_eq_false (by omega)
  have d5 : decide (500 < (t.length : Int)) = false := decide_eq_false (by omega)
  have hsT := layT_length s
  have htT := layT_length t
  have zs : (tx (layT s)).size = 4 + s.length := by rw [tx_size, hsT]
  have zt : (tx (layT t)).size = 4 + t.length := by rw [tx_size, htT]
  have hb := begins_same h2 h3
  rw [hsT] at hb
  have hext : ((tx (layT t)).extract 0 (4 + s.length)).toList = (layT t).take (4 + s.length) := by rw [tx_take, tx_list]
  have hl := layN_less h0 h1
  rw [← tx_list (layN (a : Int)), ← tx_list (layN (b : Int))] at hl
  have hq : ((tx s).toList == (tx t).toList) = (s == t) := tx_eq s t
  have hq2 : (((tx (layT t)).extract 0 (4 + s.length)).toList == (tx (layT s)).toList) = (s == t) := by rw [hext, tx_list]; exact hb
  have HB := below_new w (.cells #[.int .i64 (a : Int), .int .i64 (b : Int)] 32)
  clear hsT htT hb hext
  go_enter Try.func6, Try.ntmps6
  go_wp2_with fail
  go_quiet (fail)
  replace HB : Below w.heap.size w ((w.alloc (.cells #[.int .i64 (a : Int), .int .i64 (b : Int)] 32)).drewN nq) := HB.trans ⟨rfl, rfl, rfl, Nat.le_refl _, fun _ _ => rfl⟩
  generalize (w.alloc (.cells #[.int .i64 (a : Int), .int .i64 (b : Int)] 32)).drewN nq = W0 at *
  go_wp2_with fail
  refine (layText_any _ _ (by omega)).mono ?_
  rintro e W1 ⟨rfl, hb⟩
  replace HB := HB.trans (hb.mono HB.size)
  clear hb
  go_wp2_with fail
  refine (layText_any _ _ (by omega)).mono ?_
  rintro e W2 ⟨rfl, hb⟩
  replace HB := HB.trans (hb.mono HB.size)
  clear hb
  have hlt : (decide (a < b) = true ∧ decide ((a : Int) < (b : Int)) = true) ∨ (decide (a < b) = false ∧ decide ((a : Int) < (b : Int)) = false) := by
    by_cases g : a < b
    · exact Or.inl ⟨decide_eq_true g, decide_eq_true (by omega)⟩
    · exact Or.inr ⟨decide_eq_false g, decide_eq_false (by omega)⟩
  by_cases hle : s.length ≤ t.length
  · have d6 : decide (4 + s.length ≤ 4 + t.length) = true := decide_eq_true (by omega)
    have d7 : ((s == t) == (s == t)) = true := by simp
    go_wp2_with fail
    refine (awake7_any _).mono ?_
    rintro e W3 ⟨rfl, hb⟩
    replace HB := HB.trans (hb.mono HB.size)
    clear hb
    go_wp2_with fail
    refine (layNum_any _ _).mono ?_
    rintro e W4 ⟨rfl, hb⟩
    replace HB := HB.trans (hb.mono HB.size)
    clear hb
    go_wp2_with fail
    refine (layNum_any _ _).mono ?_
    rintro e W5 ⟨rfl, hb⟩
    replace HB := HB.trans (hb.mono HB.size)
    clear hb
    rcases hlt with ⟨g1, g2⟩ | ⟨g1, g2⟩
    · go_wp2
      go_ret
      exact ⟨rfl, HB⟩
    · go_wp2
      go_ret
      exact ⟨rfl, HB⟩
  · have d6 : decide (4 + s.length ≤ 4 + t.length) = false := decide_eq_false (by omega)
    have d7 : (s == t) = false := by
      have : s ≠ t := fun e => hle (by rw [e]; exact Nat.le_refl _)
      simpa using this
    go_wp2_with fail
    refine (awake7_any _).mono ?_
    rintro e W3 ⟨rfl, hb⟩
    replace HB := HB.trans (hb.mono HB.size)
    clear hb
    go_wp2_with fail
    refine (layNum_any _ _).mono ?_
    rintro e W4 ⟨rfl, hb⟩
    replace HB := HB.trans (hb.mono HB.size)
    clear hb
    go_wp2_with fail
    refine (layNum_any _ _).mono ?_
    rintro e W5 ⟨rfl, hb⟩
    replace HB := HB.trans (hb.mono HB.size)
    clear hb
    rcases hlt with ⟨g1, g2⟩ | ⟨g1, g2⟩
    · go_wp2
      go_ret
      exact ⟨rfl, HB⟩
    · go_wp2
      go_ret
      exact ⟨rfl, HB⟩

theorem layApart_walk (c : Array Value) (s t : ByteArray) (w : World) (w0 : ∃ xs, Arr 2 1 (IsInt .i64) w.heap.size w xs c.toList) (w1 : s.size ≤ maxLen) (w2 : t.size ≤ maxLen) :
    Calls Try.prog 6 #[.agg c, .string s, .string t] w fun e w' => e = .returned (.bool true) ∧ Below w.heap.size w w' := by
  obtain ⟨xs, h⟩ := w0
  obtain ⟨a, b, rfl, hc, _, _⟩ := two_ints h
  obtain ⟨l⟩ := c
  simp only at hc
  subst hc
  rw [tx_of s, tx_of t]
  by_cases h : 0 ≤ a ∧ 0 ≤ b ∧ a < 2147483648 ∧ b < 2147483648 ∧ s.data.toList.length ≤ 500 ∧ t.data.toList.length ≤ 500
  · obtain ⟨h0, h1, h2, h3, h4, h5⟩ := h
    obtain ⟨A, rfl⟩ := Int.eq_ofNat_of_zero_le h0
    obtain ⟨B, rfl⟩ := Int.eq_ofNat_of_zero_le h1
    exact layApart_in A B _ _ w (by omega) (by omega) h4 h5
  · exact layApart_out a b _ _ w h

end Go.Proofs.Ytghdejepdckahaa
