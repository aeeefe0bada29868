/- lodgelaw09.TreeApart answers true, whatever two slices of spots come in, and leaves memory below as it was. No condition. -/
import Derived.Test.YtgnebmandifhiaaAwake9
namespace Go.Proofs.Ytgnebmandifhiaa
open Go Go.RowKit
set_option linter.unusedVariables false

set_option maxRecDepth 100000 in
set_option maxHeartbeats 8000000 in
theorem treeApart_walk (A : Option Addr) (la ca : Nat) (B : Option Addr) (lb cb : Nat) (w : World) (h : ∃ xs, Spots w.heap.size w xs [.slice A la ca]) (h' : ∃ xs, Spots w.heap.size w xs [.slice B lb cb]) :
    Calls Try.prog 6 #[.slice A la ca, .slice B lb cb] w fun e w' => e = .returned (.bool true) ∧ Below w.heap.size w w' := by
  obtain ⟨xs, hx⟩ := h
  obtain ⟨ys, hy⟩ := h'
  have HX := Lib.hid hx
  have HY := Lib.hid hy
  obtain ⟨_, _, e, hlc, hcm, _⟩ := spots_at hx
  obtain ⟨_, _, e', hlc', hcm', _⟩ := spots_at hy
  simp only [Value.slice.injEq] at e e'
  obtain ⟨rfl, hla, rfl⟩ := e
  obtain ⟨rfl, hlb, rfl⟩ := e'
  have hc1 : ca ≤ 9223372036854775807 := Nat.le_trans hcm (by decide)
  have hc2 : cb ≤ 9223372036854775807 := Nat.le_trans hcm' (by decide)
  have HLA := Lib.hid hla
  have HLB := Lib.hid hlb
  rw [← hla] at hlc
  rw [← hlb] at hlc'
  clear hx hy hcm hcm' hla hlb
  by_cases h1 : 60 < la
  · have hd : decide (60 < la) = true := decide_eq_true h1
    have hd2 : decide ((60 : Int) < (la : Int)) = true := decide_eq_true (by omega)
    go_enter Try.func6, Try.ntmps6
    go_wp2_with fail
    refine (awake9_any w).mono ?_
    rintro e W9 ⟨rfl, B9⟩
    go_wp2
    go_ret
    exact ⟨rfl, B9⟩

  · have hd : decide (60 < la) = false := decide_eq_false h1
    have hd2 : decide ((60 : Int) < (la : Int)) = false := decide_eq_false (by omega)
    by_cases h2 : 60 < lb
    · have hd3 : decide (60 < lb) = true := decide_eq_true h2
      have hd4 : decide ((60 : Int) < (lb : Int)) = true := decide_eq_true (by omega)
      go_enter Try.func6, Try.ntmps6
      go_wp2_with fail
      refine (awake9_any w).mono ?_
      rintro e W9 ⟨rfl, B9⟩
      go_wp2
      go_ret
      exact ⟨rfl, B9⟩

    · have hd3 : decide (60 < lb) = false := decide_eq_false h2
      have hd4 : decide ((60 : Int) < (lb : Int)) = false := decide_eq_false (by omega)
      go_enter Try.func6, Try.ntmps6
      go_wp2_with fail
      refine (right_any _ xs w HX.out (by have := HLA.out; omega)).mono ?_
      rintro e W1 ⟨rfl, B1⟩
      replace HX := Lib.hid (keeps_spots _ _ _ _ _ _ HX.out B1 B1.size)
      replace HY := Lib.hid (keeps_spots _ _ _ _ _ _ HY.out B1 B1.size)
      cases hox : okT xs
      · clear hox
        go_wp2_with fail
        refine (awake9_any W1).mono ?_
        rintro e W9 ⟨rfl, B9⟩
        go_wp2
        go_ret
        exact ⟨rfl, B1.trans (B9.mono B1.size)⟩

      · have HOX := Lib.hid hox
        clear hox
        go_wp2_with fail
        refine (right_any _ ys W1 HY.out (by have := HLB.out; omega)).mono ?_
        rintro e W2 ⟨rfl, B2⟩
        replace HX := Lib.hid (keeps_spots _ _ _ _ _ _ HX.out B2 B2.size)
        replace HY := Lib.hid (keeps_spots _ _ _ _ _ _ HY.out B2 B2.size)
        have B := B1.trans (B2.mono B1.size)
        clear B1 B2
        cases hoy : okT ys
        · clear hoy
          go_wp2_with fail
          refine (awake9_any W2).mono ?_
          rintro e W9 ⟨rfl, B9⟩
          go_wp2
          go_ret
          exact ⟨rfl, B.trans (B9.mono B.size)⟩

        · have HOY := Lib.hid hoy
          clear hoy
          have hT : ((tx (layTr xs)).toList == (tx (layTr ys)).toList) = decide (xs = ys) := by
            rw [tx_eq]
            by_cases e : xs = ys
            · subst e; simp
            · rw [decide_eq_false e, beq_eq_false_iff_ne]
              exact fun k => e (layTr_inj HOX.out HOY.out k)
          have HT := Lib.hid hT
          clear hT
          go_wp2_with fail
          refine (awake9_any W2).mono ?_
          rintro e W3 ⟨rfl, B3⟩
          replace HX := Lib.hid (keeps_spots _ _ _ _ _ _ HX.out B3 B3.size)
          replace HY := Lib.hid (keeps_spots _ _ _ _ _ _ HY.out B3 B3.size)
          replace B := B.trans (B3.mono B.size)
          clear B3
          go_wp2_with fail
          refine (printT_any _ xs W3 HX.out (by have := HLA.out; omega)).mono ?_
          rintro e W4 ⟨rfl, B4⟩
          replace HX := Lib.hid (keeps_spots _ _ _ _ _ _ HX.out B4 B4.size)
          replace HY := Lib.hid (keeps_spots _ _ _ _ _ _ HY.out B4 B4.size)
          replace B := B.trans (B4.mono B.size)
          clear B4
          go_wp2_with fail
          refine (printT_any _ ys W4 HY.out (by have := HLB.out; omega)).mono ?_
          rintro e W5 ⟨rfl, B5⟩
          replace HX := Lib.hid (keeps_spots _ _ _ _ _ _ HX.out B5 B5.size)
          replace HY := Lib.hid (keeps_spots _ _ _ _ _ _ HY.out B5 B5.size)
          replace B := B.trans (B5.mono B.size)
          clear B5
          have HS := Lib.hid (sameS_any _ _ xs ys W5 HX.out HY.out (by have := HLA.out; omega))
          have hT := HT.out
          generalize decide (xs = ys) = c at *
          generalize tx (layTr xs) = p at *
          generalize tx (layTr ys) = q at *
          go_wp2_with fail
          refine HS.out.mono ?_
          rintro e W6 ⟨rfl, B6⟩
          cases c
          all_goals
            go_wp2
            go_ret
            exact ⟨rfl, B.trans (B6.mono B.size)⟩

end Go.Proofs.Ytgnebmandifhiaa
