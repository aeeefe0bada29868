/- lodgelaw10.LabelOf answers true, whatever slice of spots and member come in, and leaves memory below as it was. No condition. -/
import Derived.Test.YtoddcpkogapolaaAwake10
import Derived.Test.YtoddcpkogapolaaPhaseR
import Derived.Test.YtoddcpkogapolaaRefJ
import Derived.Test.YtoddcpkogapolaaLens
namespace Go.Proofs.Ytoddcpkogapolaa
open Go Go.RowKit
set_option linter.unusedVariables false

theorem wayO_le (ot : Option Tr) (m : Int × Int) (hh : htO ot ≤ 60) : (wayO ot m).length ≤ 61 := by
  unfold wayO
  cases hof : offO ot m with
  | none => exact Nat.zero_le _
  | some p =>
    cases ot with
    | none => cases hof
    | some t =>
      have := off_high hof
      have hh2 : ht t ≤ 60 := hh
      simp only [ups_length]
      omega
set_option maxRecDepth 100000 in
set_option maxHeartbeats 8000000 in
theorem labelOf_walk (A : Option Addr) (la ca : Nat) (c : Array Value) (w : World) (h : ∃ xs, Spots w.heap.size w xs [.slice A la ca]) (h' : ∃ m, IsM w.heap.size w m c.toList) :
    Calls Try.prog 4 #[.slice A la ca, .agg c] w fun e w' => e = .returned (.bool true) ∧ Below w.heap.size w w' := by
  obtain ⟨xs, hx⟩ := h
  have HX := Lib.hid hx
  obtain ⟨_, _, e, hlc, hcm, _⟩ := spots_at hx
  simp only [Value.slice.injEq] at e
  obtain ⟨rfl, hla, rfl⟩ := e
  have hc1 : ca ≤ 9223372036854775807 := Nat.le_trans hcm (by decide)
  subst hla
  clear hx hcm
  obtain ⟨⟨m1, m2⟩, hm⟩ := h'
  obtain rfl : c = #[.int .i64 m1, .int .i64 m2] := by
    have hm : c.toList = [.int .i64 m1, .int .i64 m2] := hm
    rw [← Array.toArray_toList (xs := c), hm]
  clear hm
  obtain ⟨b, hb1, hb2⟩ := small10_any xs
  have HSM := Lib.hid hb2
  clear hb2
  go_enter Try.func4, Try.ntmps4
  go_wp2_with fail
  obtain ⟨W0, hW0, b0, B⟩ : ∃ W0, w.alloc (.cells #[.int .i64 m1, .int .i64 m2] 35) = W0 ∧ Box W0 w.heap.size [.int .i64 m1, .int .i64 m2] ∧ Below w.heap.size w W0 := ⟨_, rfl, Box.new w _ _, below_new _ _⟩
  rw [hW0]
  clear hW0
  refine (HSM.out _ W0 (keeps_spots _ _ _ _ _ _ HX.out B B.size)).mono ?_
  rintro e W1 ⟨rfl, hb⟩
  replace b0 := b0.next hb
  replace HX := Lib.hid (keeps_spots _ _ _ _ _ _ HX.out (B.trans (hb.mono B.size)) (Nat.le_trans B.size hb.size))
  replace B := B.trans (hb.mono B.size)
  clear hb
  cases b with
  | false =>
    clear hb1
    go_wp2_with fail
    refine (awake10_any W1).mono ?_
    rintro e W9 ⟨rfl, B9⟩
    go_wp2
    go_ret
    exact ⟨rfl, B.trans (B9.mono B.size)⟩

  | true =>
    obtain ⟨ot, rfl, hok, hht⟩ := hb1 rfl
    have hn : (spo ot).length ≤ 1000000 := by have := (okT_parts hok).1; omega
    have hwl : (wayO ot (m1, m2)).length ≤ 1000000 := by have := wayO_le ot (m1, m2) hht; omega
    clear hb1
    have q0 := b0.c 0 _ rfl
    have q1 := b0.c 1 _ rfl
    go_wp2_with fail
    refine (lOf_any _ ot m1 m2 W1 HX.out hok hht).mono ?_
    rintro e W2 ⟨rfl, hb⟩
    obtain ⟨⟨⟨x1, x2⟩, okv⟩, hof⟩ : ∃ q, ofO ot (m1, m2) = q := ⟨_, rfl⟩
    rw [hof]
    have HOF := Lib.hid hof
    replace b0 := b0.next hb
    replace HX := Lib.hid (keeps_spots _ _ _ _ _ _ HX.out hb hb.size)
    replace B := B.trans (hb.mono B.size)
    clear hb hof q0 q1
    have q0 := fun o => (b0.next (below_new W2 o)).c 0 _ rfl
    have q1 := fun o => (b0.next (below_new W2 o)).c 1 _ rfl
    go_wp2_with fail
    obtain ⟨W3, hW3, b5, hb⟩ : ∃ W3, W2.alloc (.cells #[.int .i64 x1, .int .i64 x2] 24) = W3 ∧ Box W3 W2.heap.size [.int .i64 x1, .int .i64 x2] ∧ Below W2.heap.size W2 W3 := ⟨_, rfl, Box.new W2 _ _, below_new _ _⟩
    rw [hW3]
    obtain ⟨g5, hg5⟩ : ∃ g, W2.heap.size = g := ⟨_, rfl⟩
    rw [hg5] at b5
    rw [hg5]
    replace b0 := b0.next hb
    replace HX := Lib.hid (keeps_spots _ _ _ _ _ _ HX.out hb hb.size)
    replace B := B.trans (hb.mono B.size)
    clear hb hW3 hg5 q0 q1
    refine (show Calls _ _ _ _ (fun e W' => e = .returned (.tuple #[vM x1 x2, .bool okv]) ∧ Below W3.heap.size W3 W') from by
      cases ot with
      | none => have := refOf_nil _ m1 m2 W3 HX.out; have e := HOF.out; simp only [ofO, offO, Prod.mk.injEq] at e; obtain ⟨⟨rfl, rfl⟩, rfl⟩ := e; exact this
      | some t => have := refOf_flat t _ m1 m2 W3 HX.out hn hht; rw [HOF.out] at this; exact this).mono ?_
    rintro e W4 ⟨rfl, hb⟩
    replace b0 := b0.next hb
    replace b5 := b5.next hb
    replace HX := Lib.hid (keeps_spots _ _ _ _ _ _ HX.out hb hb.size)
    replace B := B.trans (hb.mono B.size)
    clear hb
    go_wp2_with fail
    obtain ⟨W6, hW6, b7, hb⟩ : ∃ W6, W4.alloc (.cells #[.int .i64 x1, .int .i64 x2] 24) = W6 ∧ Box W6 W4.heap.size [.int .i64 x1, .int .i64 x2] ∧ Below W4.heap.size W4 W6 := ⟨_, rfl, Box.new W4 _ _, below_new _ _⟩
    rw [hW6]
    obtain ⟨g7, hg7⟩ : ∃ g, W4.heap.size = g := ⟨_, rfl⟩
    rw [hg7] at b7
    rw [hg7]
    replace b0 := b0.next hb
    replace b5 := b5.next hb
    replace HX := Lib.hid (keeps_spots _ _ _ _ _ _ HX.out hb hb.size)
    replace B := B.trans (hb.mono B.size)
    clear hb hW6 hg7
    refine wp_region_results (fun r i => ([.bool true, .bool true, .agg #[.int .i64 x1, .int .i64 x2], .agg #[.int .i64 x1, .int .i64 x2], .bool true, .bool true, .bool true, .bool okv, .bool okv, .bool true, .bool true, .bool true, .slice A (spo ot).length ca, .agg #[.int .i64 m1, .int .i64 m2], (r 1), .slice A (spo ot).length ca, .agg #[.int .i64 m1, .int .i64 m2], (r 2), .bool true, .bool true, .bool true] : List Value).getD i undef) [0, 14, 17, 18] [0, 1, 1, 1, 1, 1, 1, 1, 1, 1, 1, 1, 1, 1, 1, 1, 1, 2, 3, 4, 4] (fun r q w' => (Below W6.heap.size W6 w') ∧ (1 < q → Mems w'.heap.size w' (wayO ot (m1, m2)) [(r 1)]) ∧ (2 < q → Mems w'.heap.size w' (wayO ot (m1, m2)) [(r 2)])) (by kernel_rfl) (by kernel_rfl) (fun r => ⟨⟨rfl, rfl, rfl, Nat.le_refl _, fun _ _ => rfl⟩, fun h => absurd h (Nat.not_lt_zero _), fun h => absurd h (Nat.not_lt_zero _)⟩) ?_ ?_
    · refine ObsR_of_ends (by kernel_rfl) ?_
      intro r Fr hEA
      refine ⟨?_, ?_, ?_, ?_, ?_, ?_, ?_, ?_, ?_, ?_, ?_, ?_, ?_, ?_, ?_, ?_, ?_, ?_, ?_, ?_, ?_, trivial⟩
      · refine obR_call (q := 0) (f := 14) (args := #[]) (want_none rfl) (by kernel_rfl) (fun w' => by simp [go_sem]) ?_
        intro w' hw
        refine (awake10_any w').mono ?_
        rintro e w2 ⟨rfl, hb⟩
        exact ⟨_, rfl, fun r' hr hv => ⟨rfl, ⟨hw.1.trans (hb.mono hw.1.size), fun h => absurd h (by decide), fun h => absurd h (by decide)⟩⟩⟩
      · exact obR_move _ rfl (want_none rfl) (by kernel_rfl) (eval_dst hEA (j := 0) rfl rfl)
      · refine obR_val (want_is hEA (g := 1) (x := true) (b := true) rfl rfl rfl rfl) (by kernel_rfl) (fun ph w' hp hpm hw => ?_)
        have hc0 := (hw.1.cell (p := ⟨g5, 0, none⟩) b5.lt).trans (b5.c 0 _ rfl)
        have hc1 := (hw.1.cell (p := ⟨g5, 1, none⟩) b5.lt).trans (b5.c 1 _ rfl)
        have e5 : Fr.tmps[5]? = some (.pointer (some ⟨g5, 0, none⟩)) := at_out hEA (d := 5) (by kernel_rfl); simp [execOp, e5, hc0, hc1, go_sem]
      · refine obR_val (want_is hEA (g := 1) (x := true) (b := true) rfl rfl rfl rfl) (by kernel_rfl) (fun ph w' hp hpm hw => ?_)
        have hc0 := (hw.1.cell (p := ⟨g7, 0, none⟩) b7.lt).trans (b7.c 0 _ rfl)
        have hc1 := (hw.1.cell (p := ⟨g7, 1, none⟩) b7.lt).trans (b7.c 1 _ rfl)
        have e7 : Fr.tmps[7]? = some (.pointer (some ⟨g7, 0, none⟩)) := at_out hEA (d := 7) (by kernel_rfl); simp [execOp, e7, hc0, hc1, go_sem]
      · refine obR_val (want_is hEA (g := 1) (x := true) (b := true) rfl rfl rfl rfl) (by kernel_rfl) (fun ph w' hp hpm hw => ?_)
        have e27 : Fr.tmps[27]? = some (.agg #[.int .i64 x1, .int .i64 x2]) := hEA.dst 2 _ 27 rfl rfl; have e28 : Fr.tmps[28]? = some (.agg #[.int .i64 x1, .int .i64 x2]) := hEA.dst 3 _ 28 rfl rfl; simp [execOp, e27, e28, go_sem]
      · refine obR_val (want_none rfl) (by kernel_rfl) (fun ph w' hp hpm hw => ?_)
        have e26 : Fr.tmps[26]? = some (.bool true) := hEA.dst 1 _ 26 rfl rfl; have e29 : Fr.tmps[29]? = some (.bool true) := hEA.dst 4 _ 29 rfl rfl; simp [execOp, e26, e29, go_sem]
      · exact obR_move _ rfl (want_none rfl) (by kernel_rfl) (eval_dst hEA (j := 5) rfl rfl)
      · exact obR_move _ rfl (want_is hEA (g := 6) (x := true) (b := true) rfl rfl rfl rfl) (by kernel_rfl) (eval_out hEA (d := 6) (by kernel_rfl))
      · exact obR_move _ rfl (want_is hEA (g := 6) (x := true) (b := true) rfl rfl rfl rfl) (by kernel_rfl) (eval_out hEA (d := 8) (by kernel_rfl))
      · refine obR_val (want_is hEA (g := 6) (x := true) (b := true) rfl rfl rfl rfl) (by kernel_rfl) (fun ph w' hp hpm hw => ?_)
        have e32 : Fr.tmps[32]? = some (.bool okv) := hEA.dst 7 _ 32 rfl rfl; have e33 : Fr.tmps[33]? = some (.bool okv) := hEA.dst 8 _ 33 rfl rfl; simp [execOp, e32, e33, go_sem]
      · refine obR_val (want_none rfl) (by kernel_rfl) (fun ph w' hp hpm hw => ?_)
        have e31 : Fr.tmps[31]? = some (.bool true) := hEA.dst 6 _ 31 rfl rfl; have e34 : Fr.tmps[34]? = some (.bool true) := hEA.dst 9 _ 34 rfl rfl; simp [execOp, e31, e34, go_sem]
      · exact obR_move _ rfl (want_none rfl) (by kernel_rfl) (eval_dst hEA (j := 10) rfl rfl)
      · exact obR_move _ rfl (want_is hEA (g := 11) (x := true) (b := true) rfl rfl rfl rfl) (by kernel_rfl) (eval_out hEA (d := 0) (by kernel_rfl))
      · refine obR_val (want_is hEA (g := 11) (x := true) (b := true) rfl rfl rfl rfl) (by kernel_rfl) (fun ph w' hp hpm hw => ?_)
        have hc0 := (hw.1.cell (p := ⟨w.heap.size, 0, none⟩) b0.lt).trans (b0.c 0 _ rfl)
        have hc1 := (hw.1.cell (p := ⟨w.heap.size, 1, none⟩) b0.lt).trans (b0.c 1 _ rfl)
        have e3 : Fr.tmps[3]? = some (.pointer (some ⟨w.heap.size, 0, none⟩)) := at_out hEA (d := 3) (by kernel_rfl); simp [execOp, e3, hc0, hc1, go_sem]
      · refine obR_call (q := 1) (f := 24) (args := #[.slice A (spo ot).length ca, .agg #[.int .i64 m1, .int .i64 m2]]) (want_is hEA (g := 11) (x := true) (b := true) rfl rfl rfl rfl) (by kernel_rfl) (fun w' => by have e37 : Fr.tmps[37]? = some (.slice A (spo ot).length ca) := hEA.dst 12 _ 37 rfl rfl; have e38 : Fr.tmps[38]? = some (.agg #[.int .i64 m1, .int .i64 m2]) := hEA.dst 13 _ 38 rfl rfl; simp [e37, e38, go_sem]) ?_
        intro w' hw
        refine (lWay_any _ ot m1 m2 w' (keeps_spots _ _ _ _ _ _ HX.out hw.1 hw.1.size) hok hht).mono ?_
        rintro e w2 ⟨v', rfl, hs, hb⟩
        exact ⟨_, rfl, fun r' hr hv => ⟨hv, ⟨hw.1.trans (hb.mono hw.1.size), fun _ => by rw [hv]; exact hs, fun h => absurd h (by decide)⟩⟩⟩
      · exact obR_move _ rfl (want_is hEA (g := 11) (x := true) (b := true) rfl rfl rfl rfl) (by kernel_rfl) (eval_out hEA (d := 0) (by kernel_rfl))
      · refine obR_val (want_is hEA (g := 11) (x := true) (b := true) rfl rfl rfl rfl) (by kernel_rfl) (fun ph w' hp hpm hw => ?_)
        have hc0 := (hw.1.cell (p := ⟨w.heap.size, 0, none⟩) b0.lt).trans (b0.c 0 _ rfl)
        have hc1 := (hw.1.cell (p := ⟨w.heap.size, 1, none⟩) b0.lt).trans (b0.c 1 _ rfl)
        have e3 : Fr.tmps[3]? = some (.pointer (some ⟨w.heap.size, 0, none⟩)) := at_out hEA (d := 3) (by kernel_rfl); simp [execOp, e3, hc0, hc1, go_sem]
      · refine obR_call (q := 2) (f := 25) (args := #[.slice A (spo ot).length ca, .agg #[.int .i64 m1, .int .i64 m2]]) (want_is hEA (g := 11) (x := true) (b := true) rfl rfl rfl rfl) (by kernel_rfl) (fun w' => by have e40 : Fr.tmps[40]? = some (.slice A (spo ot).length ca) := hEA.dst 15 _ 40 rfl rfl; have e41 : Fr.tmps[41]? = some (.agg #[.int .i64 m1, .int .i64 m2]) := hEA.dst 16 _ 41 rfl rfl; simp [e40, e41, go_sem]) ?_
        intro w' hw
        refine (refWay_any _ ot m1 m2 w' (keeps_spots _ _ _ _ _ _ HX.out hw.1 hw.1.size) hn hht).mono ?_
        rintro e w2 ⟨v', rfl, hs, hb⟩
        exact ⟨_, rfl, fun r' hr hv => ⟨hv, ⟨hw.1.trans (hb.mono hw.1.size), fun _ => by rw [hr 1 (by decide)]; exact keeps_mems _ _ _ _ _ _ (hw.2.1 (by decide)) hb hb.size, fun _ => by rw [hv]; exact hs⟩⟩⟩
      · refine obR_call (q := 3) (f := 23) (args := #[(r 1), (r 2)]) (want_is hEA (g := 11) (x := true) (b := true) rfl rfl rfl rfl) (by kernel_rfl) (fun w' => by have e39 : Fr.tmps[39]? = some ((r 1)) := hEA.dst 14 _ 39 rfl rfl; have e42 : Fr.tmps[42]? = some ((r 2)) := hEA.dst 17 _ 42 rfl rfl; simp [e39, e42, go_sem]) ?_
        intro w' hw
        refine ((show Calls _ _ _ _ (fun e W' => e = .returned (.bool true) ∧ Below w'.heap.size w' W') from by have := sameL_any (r 1) (r 2) (wayO ot (m1, m2)) (wayO ot (m1, m2)) w' (hw.2.1 (by decide)) (hw.2.2 (by decide)) hwl; rwa [show decide (wayO ot (m1, m2) = wayO ot (m1, m2)) = true from decide_eq_true rfl] at this)).mono ?_
        rintro e w2 ⟨rfl, hb⟩
        exact ⟨_, rfl, fun r' hr hv => ⟨rfl, ⟨hw.1.trans (hb.mono hw.1.size), fun _ => by rw [hr 1 (by decide)]; exact keeps_mems _ _ _ _ _ _ (hw.2.1 (by decide)) hb hb.size, fun _ => by rw [hr 2 (by decide)]; exact keeps_mems _ _ _ _ _ _ (hw.2.2 (by decide)) hb hb.size⟩⟩⟩
      · refine obR_val (want_none rfl) (by kernel_rfl) (fun ph w' hp hpm hw => ?_)
        have e36 : Fr.tmps[36]? = some (.bool true) := hEA.dst 11 _ 36 rfl rfl; have e43 : Fr.tmps[43]? = some (.bool true) := hEA.dst 18 _ 43 rfl rfl; simp [execOp, e36, e43, go_sem]
      · refine obR_val (want_none rfl) (by kernel_rfl) (fun ph w' hp hpm hw => ?_)
        have e44 : Fr.tmps[44]? = some (.bool true) := hEA.dst 19 _ 44 rfl rfl; simp [execOp, e44, go_sem]
    · intro r w' hw
      simp only [laid, Act.put, List.setIfInBounds_toArray, List.set_cons_succ, List.set_cons_zero, List.getD_cons_succ, List.getD_cons_zero, Nat.zero_add, Nat.reduceAdd]
      go_wp2
      go_ret
      exact ⟨rfl, B.trans (hw.1.mono B.size)⟩

end Go.Proofs.Ytoddcpkogapolaa
