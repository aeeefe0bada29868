/- lodgelaw10.LabelTells answers true, whatever slice of spots and label come in, and leaves memory below as it was. No condition. -/
import Derived.Test.YtoddcpkogapolaaAwake10
import Derived.Test.YtoddcpkogapolaaPhaseR
import Derived.Test.YtoddcpkogapolaaRefJ
import Derived.Test.YtoddcpkogapolaaLens
namespace Go.Proofs.Ytoddcpkogapolaa
open Go Go.RowKit
set_option linter.unusedVariables false

set_option maxRecDepth 100000 in
set_option maxHeartbeats 8000000 in
theorem labelTells_walk (A : Option Addr) (la ca : Nat) (c : Array Value) (w : World) (h : ∃ xs, Spots w.heap.size w xs [.slice A la ca]) (h' : ∃ m, IsM w.heap.size w m c.toList) :
    Calls Try.prog 3 #[.slice A la ca, .agg c] w fun e w' => e = .returned (.bool true) ∧ Below w.heap.size w w' := by
  obtain ⟨xs, hx⟩ := h
  have HX := Lib.hid hx
  obtain ⟨_, _, e, hlc, hcm, _⟩ := spots_at hx
  simp only [Value.slice.injEq] at e
  obtain ⟨rfl, hla, rfl⟩ := e
  have hc1 : ca ≤ 9223372036854775807 := Nat.le_trans hcm (by decide)
  subst hla
  clear hx hcm
  obtain ⟨⟨L, I⟩, hm⟩ := h'
  obtain rfl : c = #[.int .i64 L, .int .i64 I] := by
    have hm : c.toList = [.int .i64 L, .int .i64 I] := hm
    rw [← Array.toArray_toList (xs := c), hm]
  clear hm
  obtain ⟨b, hb1, hb2⟩ := small10_any xs
  have HSM := Lib.hid hb2
  obtain ⟨⟨⟨u1, u2⟩, uk⟩, hu⟩ : ∃ q, upL L I = q := ⟨_, rfl⟩
  obtain ⟨⟨⟨d1, d2⟩, dk⟩, hd⟩ : ∃ q, besL L I = q := ⟨_, rfl⟩
  have KU1 := Lib.hid (fun w => (show Calls Try.prog 8 #[vM L I] w (fun e W' => e = .returned (.tuple #[vM u1 u2, .bool uk]) ∧ Below w.heap.size w W') from by have := lUp_any L I w; rwa [hu] at this))
  have KU2 := Lib.hid (fun w => (show Calls Try.prog 9 #[vM L I] w (fun e W' => e = .returned (.tuple #[vM u1 u2, .bool uk]) ∧ Below w.heap.size w W') from by have := refUp_any L I w; rwa [hu] at this))
  have KB1 := Lib.hid (fun w => (show Calls Try.prog 10 #[vM L I] w (fun e W' => e = .returned (.tuple #[vM d1 d2, .bool dk]) ∧ Below w.heap.size w W') from by have := lBeside_any L I w; rwa [hd] at this))
  have KB2 := Lib.hid (fun w => (show Calls Try.prog 11 #[vM L I] w (fun e W' => e = .returned (.tuple #[vM d1 d2, .bool dk]) ∧ Below w.heap.size w W') from by have := refBeside_any L I w; rwa [hd] at this))
  clear hb2 hu hd
  go_enter Try.func3, Try.ntmps3
  go_wp2_with fail
  obtain ⟨W0, hW0, b0, B⟩ : ∃ W0, w.alloc (.cells #[.int .i64 L, .int .i64 I] 24) = W0 ∧ Box W0 w.heap.size [.int .i64 L, .int .i64 I] ∧ Below w.heap.size w W0 := ⟨_, rfl, Box.new w _ _, below_new _ _⟩
  rw [hW0]
  clear hW0
  replace HX := Lib.hid (keeps_spots _ _ _ _ _ _ HX.out B B.size)
  refine (KU1.out W0).mono ?_
  rintro e W1 ⟨rfl, hb⟩
  replace b0 := b0.next hb
  replace HX := Lib.hid (keeps_spots _ _ _ _ _ _ HX.out hb hb.size)
  replace B := B.trans (hb.mono B.size)
  clear hb
  have q0 := fun o => (b0.next (below_new W1 o)).c 0 _ rfl
  have q1 := fun o => (b0.next (below_new W1 o)).c 1 _ rfl
  go_wp2_with fail
  obtain ⟨W2, hW, b5, hb⟩ : ∃ W, W1.alloc (.cells #[.int .i64 u1, .int .i64 u2] 24) = W ∧ Box W W1.heap.size [.int .i64 u1, .int .i64 u2] ∧ Below W1.heap.size W1 W := ⟨_, rfl, Box.new W1 _ _, below_new _ _⟩
  rw [hW]
  obtain ⟨g5, hg⟩ : ∃ g, W1.heap.size = g := ⟨_, rfl⟩
  rw [hg] at b5
  rw [hg]
  replace b0 := b0.next hb
  replace HX := Lib.hid (keeps_spots _ _ _ _ _ _ HX.out hb hb.size)
  replace B := B.trans (hb.mono B.size)
  clear hb
  clear hW hg q0 q1
  refine (KU2.out W2).mono ?_
  rintro e W3 ⟨rfl, hb⟩
  replace b0 := b0.next hb
  replace b5 := b5.next hb
  replace HX := Lib.hid (keeps_spots _ _ _ _ _ _ HX.out hb hb.size)
  replace B := B.trans (hb.mono B.size)
  clear hb
  have q0 := fun o => (b0.next (below_new W3 o)).c 0 _ rfl
  have q1 := fun o => (b0.next (below_new W3 o)).c 1 _ rfl
  go_wp2_with fail
  obtain ⟨W4, hW, b7, hb⟩ : ∃ W, W3.alloc (.cells #[.int .i64 u1, .int .i64 u2] 24) = W ∧ Box W W3.heap.size [.int .i64 u1, .int .i64 u2] ∧ Below W3.heap.size W3 W := ⟨_, rfl, Box.new W3 _ _, below_new _ _⟩
  rw [hW]
  obtain ⟨g7, hg⟩ : ∃ g, W3.heap.size = g := ⟨_, rfl⟩
  rw [hg] at b7
  rw [hg]
  replace b0 := b0.next hb
  replace b5 := b5.next hb
  replace HX := Lib.hid (keeps_spots _ _ _ _ _ _ HX.out hb hb.size)
  replace B := B.trans (hb.mono B.size)
  clear hb
  clear hW hg q0 q1
  refine (KB1.out W4).mono ?_
  rintro e W5 ⟨rfl, hb⟩
  replace b0 := b0.next hb
  replace b5 := b5.next hb
  replace b7 := b7.next hb
  replace HX := Lib.hid (keeps_spots _ _ _ _ _ _ HX.out hb hb.size)
  replace B := B.trans (hb.mono B.size)
  clear hb
  have q0 := fun o => (b0.next (below_new W5 o)).c 0 _ rfl
  have q1 := fun o => (b0.next (below_new W5 o)).c 1 _ rfl
  go_wp2_with fail
  obtain ⟨W6, hW, b9, hb⟩ : ∃ W, W5.alloc (.cells #[.int .i64 d1, .int .i64 d2] 24) = W ∧ Box W W5.heap.size [.int .i64 d1, .int .i64 d2] ∧ Below W5.heap.size W5 W := ⟨_, rfl, Box.new W5 _ _, below_new _ _⟩
  rw [hW]
  obtain ⟨g9, hg⟩ : ∃ g, W5.heap.size = g := ⟨_, rfl⟩
  rw [hg] at b9
  rw [hg]
  replace b0 := b0.next hb
  replace b5 := b5.next hb
  replace b7 := b7.next hb
  replace HX := Lib.hid (keeps_spots _ _ _ _ _ _ HX.out hb hb.size)
  replace B := B.trans (hb.mono B.size)
  clear hb
  clear hW hg q0 q1
  refine (KB2.out W6).mono ?_
  rintro e W7 ⟨rfl, hb⟩
  replace b0 := b0.next hb
  replace b5 := b5.next hb
  replace b7 := b7.next hb
  replace b9 := b9.next hb
  replace HX := Lib.hid (keeps_spots _ _ _ _ _ _ HX.out hb hb.size)
  replace B := B.trans (hb.mono B.size)
  clear hb
  have q0 := fun o => (b0.next (below_new W7 o)).c 0 _ rfl
  have q1 := fun o => (b0.next (below_new W7 o)).c 1 _ rfl
  go_wp2_with fail
  obtain ⟨W8, hW, b11, hb⟩ : ∃ W, W7.alloc (.cells #[.int .i64 d1, .int .i64 d2] 24) = W ∧ Box W W7.heap.size [.int .i64 d1, .int .i64 d2] ∧ Below W7.heap.size W7 W := ⟨_, rfl, Box.new W7 _ _, below_new _ _⟩
  rw [hW]
  obtain ⟨g11, hg⟩ : ∃ g, W7.heap.size = g := ⟨_, rfl⟩
  rw [hg] at b11
  rw [hg]
  replace b0 := b0.next hb
  replace b5 := b5.next hb
  replace b7 := b7.next hb
  replace b9 := b9.next hb
  replace HX := Lib.hid (keeps_spots _ _ _ _ _ _ HX.out hb hb.size)
  replace B := B.trans (hb.mono B.size)
  clear hb
  clear hW hg q0 q1
  cases hk : okL L I
  · have HK := Lib.hid hk
    clear hk
    go_wp2_with fail
    refine wp_region_results (fun r i => ([.agg #[.int .i64 L, .int .i64 I], .bool false, .agg #[.int .i64 L, .int .i64 I], .bool false, .bool false, .bool false, .agg #[.int .i64 u1, .int .i64 u2], .agg #[.int .i64 u1, .int .i64 u2], .bool false, .bool false, .bool false, .bool uk, .bool uk, .bool false, .bool false, .bool false, .agg #[.int .i64 d1, .int .i64 d2], .agg #[.int .i64 d1, .int .i64 d2], .bool false, .bool false, .bool false, .bool dk, .bool dk, .bool false, .bool false] : List Value).getD i undef) [1, 3] [0, 0, 0, 1, 2, 2, 2, 2, 2, 2, 2, 2, 2, 2, 2, 2, 2, 2, 2, 2, 2, 2, 2, 2, 2] (fun r q w' => (Below W8.heap.size W8 w')) (by kernel_rfl) (by kernel_rfl) (fun r => ⟨rfl, rfl, rfl, Nat.le_refl _, fun _ _ => rfl⟩) ?_ ?_
    · refine ObsR_of_ends (by kernel_rfl) ?_
      intro r Fr hEA
      refine ⟨?_, ?_, ?_, ?_, ?_, ?_, ?_, ?_, ?_, ?_, ?_, ?_, ?_, ?_, ?_, ?_, ?_, ?_, ?_, ?_, ?_, ?_, ?_, ?_, ?_, trivial⟩
      · refine obR_val (want_none rfl) (by kernel_rfl) (fun ph w' hp hpm hw => ?_)
        have hc0 := (hw.cell (p := ⟨w.heap.size, 0, none⟩) b0.lt).trans (b0.c 0 _ rfl)
        have hc1 := (hw.cell (p := ⟨w.heap.size, 1, none⟩) b0.lt).trans (b0.c 1 _ rfl)
        have e3 : Fr.tmps[3]? = some (.pointer (some ⟨w.heap.size, 0, none⟩)) := at_out hEA (d := 3) (by kernel_rfl); simp [execOp, e3, hc0, hc1, go_sem]
      · refine obR_call (q := 0) (f := 12) (args := #[.agg #[.int .i64 L, .int .i64 I]]) (want_none rfl) (by kernel_rfl) (fun w' => by have e33 : Fr.tmps[33]? = some (.agg #[.int .i64 L, .int .i64 I]) := hEA.dst 0 _ 33 rfl rfl; simp [e33, go_sem]) ?_
        intro w' hw
        refine ((show Calls _ _ _ _ (fun e W' => e = .returned (.bool false) ∧ Below w'.heap.size w' W') from by have := lRight_any L I w'; rwa [HK.out] at this)).mono ?_
        rintro e w2 ⟨rfl, hb⟩
        exact ⟨_, rfl, fun r' hr hv => ⟨rfl, hw.trans (hb.mono hw.size)⟩⟩
      · refine obR_val (want_none rfl) (by kernel_rfl) (fun ph w' hp hpm hw => ?_)
        have hc0 := (hw.cell (p := ⟨w.heap.size, 0, none⟩) b0.lt).trans (b0.c 0 _ rfl)
        have hc1 := (hw.cell (p := ⟨w.heap.size, 1, none⟩) b0.lt).trans (b0.c 1 _ rfl)
        have e3 : Fr.tmps[3]? = some (.pointer (some ⟨w.heap.size, 0, none⟩)) := at_out hEA (d := 3) (by kernel_rfl); simp [execOp, e3, hc0, hc1, go_sem]
      · refine obR_call (q := 1) (f := 13) (args := #[.agg #[.int .i64 L, .int .i64 I]]) (want_none rfl) (by kernel_rfl) (fun w' => by have e35 : Fr.tmps[35]? = some (.agg #[.int .i64 L, .int .i64 I]) := hEA.dst 2 _ 35 rfl rfl; simp [e35, go_sem]) ?_
        intro w' hw
        refine ((show Calls _ _ _ _ (fun e W' => e = .returned (.bool false) ∧ Below w'.heap.size w' W') from by have := refLright_any L I w'; rwa [HK.out] at this)).mono ?_
        rintro e w2 ⟨rfl, hb⟩
        exact ⟨_, rfl, fun r' hr hv => ⟨rfl, hw.trans (hb.mono hw.size)⟩⟩
      · refine obR_val (want_none rfl) (by kernel_rfl) (fun ph w' hp hpm hw => ?_)
        have e34 : Fr.tmps[34]? = some (.bool false) := hEA.dst 1 _ 34 rfl rfl; have e36 : Fr.tmps[36]? = some (.bool false) := hEA.dst 3 _ 36 rfl rfl; simp [execOp, e34, e36, go_sem]
      · exact obR_move _ rfl (want_none rfl) (by kernel_rfl) (eval_dst hEA (j := 4) rfl rfl)
      · refine obR_val (want_is hEA (g := 5) (x := false) (b := false) rfl rfl rfl rfl) (by kernel_rfl) (fun ph w' hp hpm hw => ?_)
        have hc0 := (hw.cell (p := ⟨g5, 0, none⟩) b5.lt).trans (b5.c 0 _ rfl)
        have hc1 := (hw.cell (p := ⟨g5, 1, none⟩) b5.lt).trans (b5.c 1 _ rfl)
        have e5 : Fr.tmps[5]? = some (.pointer (some ⟨g5, 0, none⟩)) := at_out hEA (d := 5) (by kernel_rfl); simp [execOp, e5, hc0, hc1, go_sem]
      · refine obR_val (want_is hEA (g := 5) (x := false) (b := false) rfl rfl rfl rfl) (by kernel_rfl) (fun ph w' hp hpm hw => ?_)
        have hc0 := (hw.cell (p := ⟨g7, 0, none⟩) b7.lt).trans (b7.c 0 _ rfl)
        have hc1 := (hw.cell (p := ⟨g7, 1, none⟩) b7.lt).trans (b7.c 1 _ rfl)
        have e7 : Fr.tmps[7]? = some (.pointer (some ⟨g7, 0, none⟩)) := at_out hEA (d := 7) (by kernel_rfl); simp [execOp, e7, hc0, hc1, go_sem]
      · refine obR_val (want_is hEA (g := 5) (x := false) (b := false) rfl rfl rfl rfl) (by kernel_rfl) (fun ph w' hp hpm hw => ?_)
        have e39 : Fr.tmps[39]? = some (.agg #[.int .i64 u1, .int .i64 u2]) := hEA.dst 6 _ 39 rfl rfl; have e40 : Fr.tmps[40]? = some (.agg #[.int .i64 u1, .int .i64 u2]) := hEA.dst 7 _ 40 rfl rfl; simp [execOp, e39, e40, go_sem]
      · refine obR_val (want_none rfl) (by kernel_rfl) (fun ph w' hp hpm hw => ?_)
        have e38 : Fr.tmps[38]? = some (.bool false) := hEA.dst 5 _ 38 rfl rfl; have e41 : Fr.tmps[41]? = some (.bool false) := hEA.dst 8 _ 41 rfl rfl; simp [execOp, e38, e41, go_sem]
      · exact obR_move _ rfl (want_none rfl) (by kernel_rfl) (eval_dst hEA (j := 9) rfl rfl)
      · exact obR_move _ rfl (want_is hEA (g := 10) (x := false) (b := false) rfl rfl rfl rfl) (by kernel_rfl) (eval_out hEA (d := 6) (by kernel_rfl))
      · exact obR_move _ rfl (want_is hEA (g := 10) (x := false) (b := false) rfl rfl rfl rfl) (by kernel_rfl) (eval_out hEA (d := 8) (by kernel_rfl))
      · refine obR_val (want_is hEA (g := 10) (x := false) (b := false) rfl rfl rfl rfl) (by kernel_rfl) (fun ph w' hp hpm hw => ?_)
        have e44 : Fr.tmps[44]? = some (.bool uk) := hEA.dst 11 _ 44 rfl rfl; have e45 : Fr.tmps[45]? = some (.bool uk) := hEA.dst 12 _ 45 rfl rfl; simp [execOp, e44, e45, go_sem]
      · refine obR_val (want_none rfl) (by kernel_rfl) (fun ph w' hp hpm hw => ?_)
        have e43 : Fr.tmps[43]? = some (.bool false) := hEA.dst 10 _ 43 rfl rfl; have e46 : Fr.tmps[46]? = some (.bool false) := hEA.dst 13 _ 46 rfl rfl; simp [execOp, e43, e46, go_sem]
      · exact obR_move _ rfl (want_none rfl) (by kernel_rfl) (eval_dst hEA (j := 14) rfl rfl)
      · refine obR_val (want_is hEA (g := 15) (x := false) (b := false) rfl rfl rfl rfl) (by kernel_rfl) (fun ph w' hp hpm hw => ?_)
        have hc0 := (hw.cell (p := ⟨g9, 0, none⟩) b9.lt).trans (b9.c 0 _ rfl)
        have hc1 := (hw.cell (p := ⟨g9, 1, none⟩) b9.lt).trans (b9.c 1 _ rfl)
        have e9 : Fr.tmps[9]? = some (.pointer (some ⟨g9, 0, none⟩)) := at_out hEA (d := 9) (by kernel_rfl); simp [execOp, e9, hc0, hc1, go_sem]
      · refine obR_val (want_is hEA (g := 15) (x := false) (b := false) rfl rfl rfl rfl) (by kernel_rfl) (fun ph w' hp hpm hw => ?_)
        have hc0 := (hw.cell (p := ⟨g11, 0, none⟩) b11.lt).trans (b11.c 0 _ rfl)
        have hc1 := (hw.cell (p := ⟨g11, 1, none⟩) b11.lt).trans (b11.c 1 _ rfl)
        have e11 : Fr.tmps[11]? = some (.pointer (some ⟨g11, 0, none⟩)) := at_out hEA (d := 11) (by kernel_rfl); simp [execOp, e11, hc0, hc1, go_sem]
      · refine obR_val (want_is hEA (g := 15) (x := false) (b := false) rfl rfl rfl rfl) (by kernel_rfl) (fun ph w' hp hpm hw => ?_)
        have e49 : Fr.tmps[49]? = some (.agg #[.int .i64 d1, .int .i64 d2]) := hEA.dst 16 _ 49 rfl rfl; have e50 : Fr.tmps[50]? = some (.agg #[.int .i64 d1, .int .i64 d2]) := hEA.dst 17 _ 50 rfl rfl; simp [execOp, e49, e50, go_sem]
      · refine obR_val (want_none rfl) (by kernel_rfl) (fun ph w' hp hpm hw => ?_)
        have e48 : Fr.tmps[48]? = some (.bool false) := hEA.dst 15 _ 48 rfl rfl; have e51 : Fr.tmps[51]? = some (.bool false) := hEA.dst 18 _ 51 rfl rfl; simp [execOp, e48, e51, go_sem]
      · exact obR_move _ rfl (want_none rfl) (by kernel_rfl) (eval_dst hEA (j := 19) rfl rfl)
      · exact obR_move _ rfl (want_is hEA (g := 20) (x := false) (b := false) rfl rfl rfl rfl) (by kernel_rfl) (eval_out hEA (d := 10) (by kernel_rfl))
      · exact obR_move _ rfl (want_is hEA (g := 20) (x := false) (b := false) rfl rfl rfl rfl) (by kernel_rfl) (eval_out hEA (d := 12) (by kernel_rfl))
      · refine obR_val (want_is hEA (g := 20) (x := false) (b := false) rfl rfl rfl rfl) (by kernel_rfl) (fun ph w' hp hpm hw => ?_)
        have e54 : Fr.tmps[54]? = some (.bool dk) := hEA.dst 21 _ 54 rfl rfl; have e55 : Fr.tmps[55]? = some (.bool dk) := hEA.dst 22 _ 55 rfl rfl; simp [execOp, e54, e55, go_sem]
      · refine obR_val (want_none rfl) (by kernel_rfl) (fun ph w' hp hpm hw => ?_)
        have e53 : Fr.tmps[53]? = some (.bool false) := hEA.dst 20 _ 53 rfl rfl; have e56 : Fr.tmps[56]? = some (.bool false) := hEA.dst 23 _ 56 rfl rfl; simp [execOp, e53, e56, go_sem]
    · intro r w' hw
      simp only [laid, Act.put, List.setIfInBounds_toArray, List.set_cons_succ, List.set_cons_zero, List.getD_cons_succ, List.getD_cons_zero, Nat.zero_add, Nat.reduceAdd]
      obtain ⟨W9, hW9⟩ : ∃ W9, w' = W9 := ⟨_, rfl⟩
      rw [hW9] at hw
      rw [hW9]
      have hb : Below W8.heap.size W8 W9 := hw
      replace b0 := b0.next hb
      replace b5 := b5.next hb
      replace b7 := b7.next hb
      replace b9 := b9.next hb
      replace b11 := b11.next hb
      replace HX := Lib.hid (keeps_spots _ _ _ _ _ _ HX.out hb hb.size)
      replace B := B.trans (hb.mono B.size)
      clear hb
      clear hw hW9
      cases b with
      | false =>
        clear hb1
        go_wp2_with fail
        refine wp_region_results (fun r i => ([.bool true, .bool true, .slice A xs.length ca, .bool false, .bool true, .bool true, undef, undef, undef, undef, undef, undef, undef, undef, undef, undef, undef, undef, undef, undef, undef, undef, .bool true, .bool true, .bool true] : List Value).getD i undef) [0, 3] [0, 1, 1, 1, 2, 2, 2, 2, 2, 2, 2, 2, 2, 2, 2, 2, 2, 2, 2, 2, 2, 2, 2, 2, 2] (fun r q w' => (Below W9.heap.size W9 w')) (by kernel_rfl) (by kernel_rfl) (fun r => ⟨rfl, rfl, rfl, Nat.le_refl _, fun _ _ => rfl⟩) ?_ ?_
        · refine ObsR_of_ends (by kernel_rfl) ?_
          intro r Fr hEA
          refine ⟨?_, ?_, ?_, ?_, ?_, ?_, ?_, ?_, ?_, ?_, ?_, ?_, ?_, ?_, ?_, ?_, ?_, ?_, ?_, ?_, ?_, ?_, ?_, ?_, ?_, trivial⟩
          · refine obR_call (q := 0) (f := 14) (args := #[]) (want_none rfl) (by kernel_rfl) (fun w' => by simp [go_sem]) ?_
            intro w' hw
            refine (awake10_any w').mono ?_
            rintro e w2 ⟨rfl, hb⟩
            exact ⟨_, rfl, fun r' hr hv => ⟨rfl, hw.trans (hb.mono hw.size)⟩⟩
          · exact obR_move _ rfl (want_none rfl) (by kernel_rfl) (eval_dst hEA (j := 0) rfl rfl)
          · exact obR_move _ rfl (want_is hEA (g := 1) (x := true) (b := true) rfl rfl rfl rfl) (by kernel_rfl) (eval_out hEA (d := 0) (by kernel_rfl))
          · refine obR_call (q := 1) (f := 15) (args := #[.slice A xs.length ca]) (want_is hEA (g := 1) (x := true) (b := true) rfl rfl rfl rfl) (by kernel_rfl) (fun w' => by have e60 : Fr.tmps[60]? = some (.slice A xs.length ca) := hEA.dst 2 _ 60 rfl rfl; simp [e60, go_sem]) ?_
            intro w' hw
            refine (HSM.out _ w' (keeps_spots _ _ _ _ _ _ HX.out hw hw.size)).mono ?_
            rintro e w2 ⟨rfl, hb⟩
            exact ⟨_, rfl, fun r' hr hv => ⟨rfl, hw.trans (hb.mono hw.size)⟩⟩
          · refine obR_val (want_is hEA (g := 1) (x := true) (b := true) rfl rfl rfl rfl) (by kernel_rfl) (fun ph w' hp hpm hw => ?_)
            have e61 : Fr.tmps[61]? = some (.bool false) := hEA.dst 3 _ 61 rfl rfl; simp [execOp, e61, go_sem]
          · exact obR_move _ rfl (want_is hEA (g := 1) (x := true) (b := true) rfl rfl rfl rfl) (by kernel_rfl) (eval_dst hEA (j := 4) rfl rfl)
          · exact obR_skip (want_is hEA (g := 5) (x := true) (b := false) rfl rfl rfl rfl) (by kernel_rfl) rfl
          · exact obR_skip (want_is hEA (g := 5) (x := true) (b := false) rfl rfl rfl rfl) (by kernel_rfl) rfl
          · exact obR_skip (want_is hEA (g := 5) (x := true) (b := false) rfl rfl rfl rfl) (by kernel_rfl) rfl
          · exact obR_skip (want_is hEA (g := 5) (x := true) (b := false) rfl rfl rfl rfl) (by kernel_rfl) rfl
          · exact obR_skip (want_is hEA (g := 5) (x := true) (b := false) rfl rfl rfl rfl) (by kernel_rfl) rfl
          · exact obR_skip (want_is hEA (g := 5) (x := true) (b := false) rfl rfl rfl rfl) (by kernel_rfl) rfl
          · exact obR_skip (want_is hEA (g := 5) (x := true) (b := false) rfl rfl rfl rfl) (by kernel_rfl) rfl
          · exact obR_skip (want_is hEA (g := 5) (x := true) (b := false) rfl rfl rfl rfl) (by kernel_rfl) rfl
          · exact obR_skip (want_undef hEA (g := 13) rfl rfl rfl rfl) (by kernel_rfl) rfl
          · exact obR_skip (want_undef hEA (g := 13) rfl rfl rfl rfl) (by kernel_rfl) rfl
          · exact obR_skip (want_undef hEA (g := 13) rfl rfl rfl rfl) (by kernel_rfl) rfl
          · exact obR_skip (want_undef hEA (g := 13) rfl rfl rfl rfl) (by kernel_rfl) rfl
          · exact obR_skip (want_undef hEA (g := 13) rfl rfl rfl rfl) (by kernel_rfl) rfl
          · exact obR_skip (want_undef hEA (g := 13) rfl rfl rfl rfl) (by kernel_rfl) rfl
          · exact obR_skip (want_undef hEA (g := 13) rfl rfl rfl rfl) (by kernel_rfl) rfl
          · exact obR_skip (want_is hEA (g := 5) (x := true) (b := false) rfl rfl rfl rfl) (by kernel_rfl) rfl
          · refine obR_val (want_is hEA (g := 1) (x := true) (b := true) rfl rfl rfl rfl) (by kernel_rfl) (fun ph w' hp hpm hw => ?_)
            have e63 : Fr.tmps[63]? = some (.bool true) := hEA.dst 5 _ 63 rfl rfl; have e79 : Fr.tmps[79]? = some (undef) := hEA.dst 21 _ 79 rfl rfl; simp [execOp, e63, e79, go_sem]
          · refine obR_val (want_none rfl) (by kernel_rfl) (fun ph w' hp hpm hw => ?_)
            have e59 : Fr.tmps[59]? = some (.bool true) := hEA.dst 1 _ 59 rfl rfl; have e80 : Fr.tmps[80]? = some (.bool true) := hEA.dst 22 _ 80 rfl rfl; simp [execOp, e59, e80, go_sem]
          · refine obR_val (want_none rfl) (by kernel_rfl) (fun ph w' hp hpm hw => ?_)
            have e81 : Fr.tmps[81]? = some (.bool true) := hEA.dst 23 _ 81 rfl rfl; simp [execOp, e81, go_sem]
        · intro r w' hw
          simp only [laid, Act.put, List.setIfInBounds_toArray, List.set_cons_succ, List.set_cons_zero, List.getD_cons_succ, List.getD_cons_zero, Nat.zero_add, Nat.reduceAdd]
          go_wp2
          go_ret
          exact ⟨rfl, B.trans (hw.mono B.size)⟩
      | true =>
        obtain ⟨ot, rfl, hok, hht⟩ := hb1 rfl
        have hn : (spo ot).length ≤ 1000000 := by have := (okT_parts hok).1; omega
        have hpl : (partO ot L I).length ≤ 1000000 := by
          rcases at_part ot L I with ⟨_, e⟩ | ⟨o, u, _, e, hle, _⟩
          · rw [e]; exact Nat.zero_le _
          · rw [e]; omega
        clear hb1
        go_wp2_with fail
        refine wp_region_results (fun r i => ([.bool true, .bool true, .slice A (spo ot).length ca, .bool true, .bool false, .bool false, .slice A (spo ot).length ca, .agg #[.int .i64 L, .int .i64 I], .int .i64 (atO ot L I), .slice A (spo ot).length ca, .agg #[.int .i64 L, .int .i64 I], .int .i64 (atO ot L I), .bool true, .bool true, .slice A (spo ot).length ca, .agg #[.int .i64 L, .int .i64 I], (r 4), .slice A (spo ot).length ca, .agg #[.int .i64 L, .int .i64 I], (r 5), .bool true, .bool true, .bool true, .bool true, .bool true] : List Value).getD i undef) [0, 3, 8, 11, 16, 19, 20] [0, 1, 1, 1, 2, 2, 2, 2, 2, 2, 2, 3, 4, 4, 4, 4, 4, 4, 4, 5, 6, 7, 7, 7, 7] (fun r q w' => (Below W9.heap.size W9 w') ∧ (4 < q → Spots w'.heap.size w' (partO ot L I) [(r 4)]) ∧ (5 < q → Spots w'.heap.size w' (partO ot L I) [(r 5)])) (by kernel_rfl) (by kernel_rfl) (fun r => ⟨⟨rfl, rfl, rfl, Nat.le_refl _, fun _ _ => rfl⟩, fun h => absurd h (Nat.not_lt_zero _), fun h => absurd h (Nat.not_lt_zero _)⟩) ?_ ?_
        · refine ObsR_of_ends (by kernel_rfl) ?_
          intro r Fr hEA
          refine ⟨?_, ?_, ?_, ?_, ?_, ?_, ?_, ?_, ?_, ?_, ?_, ?_, ?_, ?_, ?_, ?_, ?_, ?_, ?_, ?_, ?_, ?_, ?_, ?_, ?_, trivial⟩
          · refine obR_call (q := 0) (f := 14) (args := #[]) (want_none rfl) (by kernel_rfl) (fun w' => by simp [go_sem]) ?_
            intro w' hw
            refine (awake10_any w').mono ?_
            rintro e w2 ⟨rfl, hb⟩
            exact ⟨_, rfl, fun r' hr hv => ⟨rfl, ⟨hw.1.trans (hb.mono hw.1.size), fun h => absurd h (by decide), fun h => absurd h (by decide)⟩⟩⟩
          · exact obR_move _ rfl (want_none rfl) (by kernel_rfl) (eval_dst hEA (j := 0) rfl rfl)
          · exact obR_move _ rfl (want_is hEA (g := 1) (x := true) (b := true) rfl rfl rfl rfl) (by kernel_rfl) (eval_out hEA (d := 0) (by kernel_rfl))
          · refine obR_call (q := 1) (f := 15) (args := #[.slice A (spo ot).length ca]) (want_is hEA (g := 1) (x := true) (b := true) rfl rfl rfl rfl) (by kernel_rfl) (fun w' => by have e60 : Fr.tmps[60]? = some (.slice A (spo ot).length ca) := hEA.dst 2 _ 60 rfl rfl; simp [e60, go_sem]) ?_
            intro w' hw
            refine (HSM.out _ w' (keeps_spots _ _ _ _ _ _ HX.out hw.1 hw.1.size)).mono ?_
            rintro e w2 ⟨rfl, hb⟩
            exact ⟨_, rfl, fun r' hr hv => ⟨rfl, ⟨hw.1.trans (hb.mono hw.1.size), fun h => absurd h (by decide), fun h => absurd h (by decide)⟩⟩⟩
          · refine obR_val (want_is hEA (g := 1) (x := true) (b := true) rfl rfl rfl rfl) (by kernel_rfl) (fun ph w' hp hpm hw => ?_)
            have e61 : Fr.tmps[61]? = some (.bool true) := hEA.dst 3 _ 61 rfl rfl; simp [execOp, e61, go_sem]
          · exact obR_move _ rfl (want_is hEA (g := 1) (x := true) (b := true) rfl rfl rfl rfl) (by kernel_rfl) (eval_dst hEA (j := 4) rfl rfl)
          · exact obR_move _ rfl (want_is hEA (g := 5) (x := false) (b := false) rfl rfl rfl rfl) (by kernel_rfl) (eval_out hEA (d := 0) (by kernel_rfl))
          · refine obR_val (want_is hEA (g := 5) (x := false) (b := false) rfl rfl rfl rfl) (by kernel_rfl) (fun ph w' hp hpm hw => ?_)
            have hc0 := (hw.1.cell (p := ⟨w.heap.size, 0, none⟩) b0.lt).trans (b0.c 0 _ rfl)
            have hc1 := (hw.1.cell (p := ⟨w.heap.size, 1, none⟩) b0.lt).trans (b0.c 1 _ rfl)
            have e3 : Fr.tmps[3]? = some (.pointer (some ⟨w.heap.size, 0, none⟩)) := at_out hEA (d := 3) (by kernel_rfl); simp [execOp, e3, hc0, hc1, go_sem]
          · refine obR_call (q := 2) (f := 16) (args := #[.slice A (spo ot).length ca, .agg #[.int .i64 L, .int .i64 I]]) (want_is hEA (g := 5) (x := false) (b := false) rfl rfl rfl rfl) (by kernel_rfl) (fun w' => by have e64 : Fr.tmps[64]? = some (.slice A (spo ot).length ca) := hEA.dst 6 _ 64 rfl rfl; have e65 : Fr.tmps[65]? = some (.agg #[.int .i64 L, .int .i64 I]) := hEA.dst 7 _ 65 rfl rfl; simp [e64, e65, go_sem]) ?_
            intro w' hw
            refine (lAt_any _ ot L I w' (keeps_spots _ _ _ _ _ _ HX.out hw.1 hw.1.size) hok hht).mono ?_
            rintro e w2 ⟨rfl, hb⟩
            exact ⟨_, rfl, fun r' hr hv => ⟨rfl, ⟨hw.1.trans (hb.mono hw.1.size), fun h => absurd h (by decide), fun h => absurd h (by decide)⟩⟩⟩
          · exact obR_move _ rfl (want_is hEA (g := 5) (x := false) (b := false) rfl rfl rfl rfl) (by kernel_rfl) (eval_out hEA (d := 0) (by kernel_rfl))
          · refine obR_val (want_is hEA (g := 5) (x := false) (b := false) rfl rfl rfl rfl) (by kernel_rfl) (fun ph w' hp hpm hw => ?_)
            have hc0 := (hw.1.cell (p := ⟨w.heap.size, 0, none⟩) b0.lt).trans (b0.c 0 _ rfl)
            have hc1 := (hw.1.cell (p := ⟨w.heap.size, 1, none⟩) b0.lt).trans (b0.c 1 _ rfl)
            have e3 : Fr.tmps[3]? = some (.pointer (some ⟨w.heap.size, 0, none⟩)) := at_out hEA (d := 3) (by kernel_rfl); simp [execOp, e3, hc0, hc1, go_sem]
          · refine obR_call (q := 3) (f := 17) (args := #[.slice A (spo ot).length ca, .agg #[.int .i64 L, .int .i64 I]]) (want_is hEA (g := 5) (x := false) (b := false) rfl rfl rfl rfl) (by kernel_rfl) (fun w' => by have e67 : Fr.tmps[67]? = some (.slice A (spo ot).length ca) := hEA.dst 9 _ 67 rfl rfl; have e68 : Fr.tmps[68]? = some (.agg #[.int .i64 L, .int .i64 I]) := hEA.dst 10 _ 68 rfl rfl; simp [e67, e68, go_sem]) ?_
            intro w' hw
            refine (refAt_any _ ot L I w' (keeps_spots _ _ _ _ _ _ HX.out hw.1 hw.1.size) hn).mono ?_
            rintro e w2 ⟨rfl, hb⟩
            exact ⟨_, rfl, fun r' hr hv => ⟨rfl, ⟨hw.1.trans (hb.mono hw.1.size), fun h => absurd h (by decide), fun h => absurd h (by decide)⟩⟩⟩
          · refine obR_val (want_is hEA (g := 5) (x := false) (b := false) rfl rfl rfl rfl) (by kernel_rfl) (fun ph w' hp hpm hw => ?_)
            have e66 : Fr.tmps[66]? = some (.int .i64 (atO ot L I)) := hEA.dst 8 _ 66 rfl rfl; have e69 : Fr.tmps[69]? = some (.int .i64 (atO ot L I)) := hEA.dst 11 _ 69 rfl rfl; simp [execOp, e66, e69, go_sem]
          · exact obR_move _ rfl (want_is hEA (g := 5) (x := false) (b := false) rfl rfl rfl rfl) (by kernel_rfl) (eval_dst hEA (j := 12) rfl rfl)
          · exact obR_move _ rfl (want_is hEA (g := 13) (x := true) (b := true) rfl rfl rfl rfl) (by kernel_rfl) (eval_out hEA (d := 0) (by kernel_rfl))
          · refine obR_val (want_is hEA (g := 13) (x := true) (b := true) rfl rfl rfl rfl) (by kernel_rfl) (fun ph w' hp hpm hw => ?_)
            have hc0 := (hw.1.cell (p := ⟨w.heap.size, 0, none⟩) b0.lt).trans (b0.c 0 _ rfl)
            have hc1 := (hw.1.cell (p := ⟨w.heap.size, 1, none⟩) b0.lt).trans (b0.c 1 _ rfl)
            have e3 : Fr.tmps[3]? = some (.pointer (some ⟨w.heap.size, 0, none⟩)) := at_out hEA (d := 3) (by kernel_rfl); simp [execOp, e3, hc0, hc1, go_sem]
          · refine obR_call (q := 4) (f := 19) (args := #[.slice A (spo ot).length ca, .agg #[.int .i64 L, .int .i64 I]]) (want_is hEA (g := 13) (x := true) (b := true) rfl rfl rfl rfl) (by kernel_rfl) (fun w' => by have e72 : Fr.tmps[72]? = some (.slice A (spo ot).length ca) := hEA.dst 14 _ 72 rfl rfl; have e73 : Fr.tmps[73]? = some (.agg #[.int .i64 L, .int .i64 I]) := hEA.dst 15 _ 73 rfl rfl; simp [e72, e73, go_sem]) ?_
            intro w' hw
            refine (lPart_any _ ot L I w' (keeps_spots _ _ _ _ _ _ HX.out hw.1 hw.1.size) hok hht).mono ?_
            rintro e w2 ⟨v', rfl, hs, hb⟩
            exact ⟨_, rfl, fun r' hr hv => ⟨hv, ⟨hw.1.trans (hb.mono hw.1.size), fun _ => by rw [hv]; exact hs, fun h => absurd h (by decide)⟩⟩⟩
          · exact obR_move _ rfl (want_is hEA (g := 13) (x := true) (b := true) rfl rfl rfl rfl) (by kernel_rfl) (eval_out hEA (d := 0) (by kernel_rfl))
          · refine obR_val (want_is hEA (g := 13) (x := true) (b := true) rfl rfl rfl rfl) (by kernel_rfl) (fun ph w' hp hpm hw => ?_)
            have hc0 := (hw.1.cell (p := ⟨w.heap.size, 0, none⟩) b0.lt).trans (b0.c 0 _ rfl)
            have hc1 := (hw.1.cell (p := ⟨w.heap.size, 1, none⟩) b0.lt).trans (b0.c 1 _ rfl)
            have e3 : Fr.tmps[3]? = some (.pointer (some ⟨w.heap.size, 0, none⟩)) := at_out hEA (d := 3) (by kernel_rfl); simp [execOp, e3, hc0, hc1, go_sem]
          · refine obR_call (q := 5) (f := 20) (args := #[.slice A (spo ot).length ca, .agg #[.int .i64 L, .int .i64 I]]) (want_is hEA (g := 13) (x := true) (b := true) rfl rfl rfl rfl) (by kernel_rfl) (fun w' => by have e75 : Fr.tmps[75]? = some (.slice A (spo ot).length ca) := hEA.dst 17 _ 75 rfl rfl; have e76 : Fr.tmps[76]? = some (.agg #[.int .i64 L, .int .i64 I]) := hEA.dst 18 _ 76 rfl rfl; simp [e75, e76, go_sem]) ?_
            intro w' hw
            refine (refPart_any _ ot L I w' (keeps_spots _ _ _ _ _ _ HX.out hw.1 hw.1.size) hn).mono ?_
            rintro e w2 ⟨v', rfl, hs, hb⟩
            exact ⟨_, rfl, fun r' hr hv => ⟨hv, ⟨hw.1.trans (hb.mono hw.1.size), fun _ => by rw [hr 4 (by decide)]; exact keeps_spots _ _ _ _ _ _ (hw.2.1 (by decide)) hb hb.size, fun _ => by rw [hv]; exact hs⟩⟩⟩
          · refine obR_call (q := 6) (f := 18) (args := #[(r 4), (r 5)]) (want_is hEA (g := 13) (x := true) (b := true) rfl rfl rfl rfl) (by kernel_rfl) (fun w' => by have e74 : Fr.tmps[74]? = some ((r 4)) := hEA.dst 16 _ 74 rfl rfl; have e77 : Fr.tmps[77]? = some ((r 5)) := hEA.dst 19 _ 77 rfl rfl; simp [e74, e77, go_sem]) ?_
            intro w' hw
            refine ((show Calls _ _ _ _ (fun e W' => e = .returned (.bool true) ∧ Below w'.heap.size w' W') from by have := sameS_any (r 4) (r 5) (partO ot L I) (partO ot L I) w' (hw.2.1 (by decide)) (hw.2.2 (by decide)) hpl; rwa [show decide (partO ot L I = partO ot L I) = true from decide_eq_true rfl] at this)).mono ?_
            rintro e w2 ⟨rfl, hb⟩
            exact ⟨_, rfl, fun r' hr hv => ⟨rfl, ⟨hw.1.trans (hb.mono hw.1.size), fun _ => by rw [hr 4 (by decide)]; exact keeps_spots _ _ _ _ _ _ (hw.2.1 (by decide)) hb hb.size, fun _ => by rw [hr 5 (by decide)]; exact keeps_spots _ _ _ _ _ _ (hw.2.2 (by decide)) hb hb.size⟩⟩⟩
          · refine obR_val (want_is hEA (g := 5) (x := false) (b := false) rfl rfl rfl rfl) (by kernel_rfl) (fun ph w' hp hpm hw => ?_)
            have e71 : Fr.tmps[71]? = some (.bool true) := hEA.dst 13 _ 71 rfl rfl; have e78 : Fr.tmps[78]? = some (.bool true) := hEA.dst 20 _ 78 rfl rfl; simp [execOp, e71, e78, go_sem]
          · refine obR_val (want_is hEA (g := 1) (x := true) (b := true) rfl rfl rfl rfl) (by kernel_rfl) (fun ph w' hp hpm hw => ?_)
            have e63 : Fr.tmps[63]? = some (.bool false) := hEA.dst 5 _ 63 rfl rfl; have e79 : Fr.tmps[79]? = some (.bool true) := hEA.dst 21 _ 79 rfl rfl; simp [execOp, e63, e79, go_sem]
          · refine obR_val (want_none rfl) (by kernel_rfl) (fun ph w' hp hpm hw => ?_)
            have e59 : Fr.tmps[59]? = some (.bool true) := hEA.dst 1 _ 59 rfl rfl; have e80 : Fr.tmps[80]? = some (.bool true) := hEA.dst 22 _ 80 rfl rfl; simp [execOp, e59, e80, go_sem]
          · refine obR_val (want_none rfl) (by kernel_rfl) (fun ph w' hp hpm hw => ?_)
            have e81 : Fr.tmps[81]? = some (.bool true) := hEA.dst 23 _ 81 rfl rfl; simp [execOp, e81, go_sem]
        · intro r w' hw
          simp only [laid, Act.put, List.setIfInBounds_toArray, List.set_cons_succ, List.set_cons_zero, List.getD_cons_succ, List.getD_cons_zero, Nat.zero_add, Nat.reduceAdd]
          go_wp2
          go_ret
          exact ⟨rfl, B.trans (hw.1.mono B.size)⟩
  · have HK := Lib.hid hk
    clear hk
    go_wp2_with fail
    refine wp_region_results (fun r i => ([.agg #[.int .i64 L, .int .i64 I], .bool true, .agg #[.int .i64 L, .int .i64 I], .bool true, .bool false, .bool false, .agg #[.int .i64 u1, .int .i64 u2], .agg #[.int .i64 u1, .int .i64 u2], .bool false, .bool false, .bool false, .bool uk, .bool uk, .bool false, .bool false, .bool false, .agg #[.int .i64 d1, .int .i64 d2], .agg #[.int .i64 d1, .int .i64 d2], .bool false, .bool false, .bool false, .bool dk, .bool dk, .bool false, .bool false] : List Value).getD i undef) [1, 3] [0, 0, 0, 1, 2, 2, 2, 2, 2, 2, 2, 2, 2, 2, 2, 2, 2, 2, 2, 2, 2, 2, 2, 2, 2] (fun r q w' => (Below W8.heap.size W8 w')) (by kernel_rfl) (by kernel_rfl) (fun r => ⟨rfl, rfl, rfl, Nat.le_refl _, fun _ _ => rfl⟩) ?_ ?_
    · refine ObsR_of_ends (by kernel_rfl) ?_
      intro r Fr hEA
      refine ⟨?_, ?_, ?_, ?_, ?_, ?_, ?_, ?_, ?_, ?_, ?_, ?_, ?_, ?_, ?_, ?_, ?_, ?_, ?_, ?_, ?_, ?_, ?_, ?_, ?_, trivial⟩
      · refine obR_val (want_none rfl) (by kernel_rfl) (fun ph w' hp hpm hw => ?_)
        have hc0 := (hw.cell (p := ⟨w.heap.size, 0, none⟩) b0.lt).trans (b0.c 0 _ rfl)
        have hc1 := (hw.cell (p := ⟨w.heap.size, 1, none⟩) b0.lt).trans (b0.c 1 _ rfl)
        have e3 : Fr.tmps[3]? = some (.pointer (some ⟨w.heap.size, 0, none⟩)) := at_out hEA (d := 3) (by kernel_rfl); simp [execOp, e3, hc0, hc1, go_sem]
      · refine obR_call (q := 0) (f := 12) (args := #[.agg #[.int .i64 L, .int .i64 I]]) (want_none rfl) (by kernel_rfl) (fun w' => by have e33 : Fr.tmps[33]? = some (.agg #[.int .i64 L, .int .i64 I]) := hEA.dst 0 _ 33 rfl rfl; simp [e33, go_sem]) ?_
        intro w' hw
        refine ((show Calls _ _ _ _ (fun e W' => e = .returned (.bool true) ∧ Below w'.heap.size w' W') from by have := lRight_any L I w'; rwa [HK.out] at this)).mono ?_
        rintro e w2 ⟨rfl, hb⟩
        exact ⟨_, rfl, fun r' hr hv => ⟨rfl, hw.trans (hb.mono hw.size)⟩⟩
      · refine obR_val (want_none rfl) (by kernel_rfl) (fun ph w' hp hpm hw => ?_)
        have hc0 := (hw.cell (p := ⟨w.heap.size, 0, none⟩) b0.lt).trans (b0.c 0 _ rfl)
        have hc1 := (hw.cell (p := ⟨w.heap.size, 1, none⟩) b0.lt).trans (b0.c 1 _ rfl)
        have e3 : Fr.tmps[3]? = some (.pointer (some ⟨w.heap.size, 0, none⟩)) := at_out hEA (d := 3) (by kernel_rfl); simp [execOp, e3, hc0, hc1, go_sem]
      · refine obR_call (q := 1) (f := 13) (args := #[.agg #[.int .i64 L, .int .i64 I]]) (want_none rfl) (by kernel_rfl) (fun w' => by have e35 : Fr.tmps[35]? = some (.agg #[.int .i64 L, .int .i64 I]) := hEA.dst 2 _ 35 rfl rfl; simp [e35, go_sem]) ?_
        intro w' hw
        refine ((show Calls _ _ _ _ (fun e W' => e = .returned (.bool true) ∧ Below w'.heap.size w' W') from by have := refLright_any L I w'; rwa [HK.out] at this)).mono ?_
        rintro e w2 ⟨rfl, hb⟩
        exact ⟨_, rfl, fun r' hr hv => ⟨rfl, hw.trans (hb.mono hw.size)⟩⟩
      · refine obR_val (want_none rfl) (by kernel_rfl) (fun ph w' hp hpm hw => ?_)
        have e34 : Fr.tmps[34]? = some (.bool true) := hEA.dst 1 _ 34 rfl rfl; have e36 : Fr.tmps[36]? = some (.bool true) := hEA.dst 3 _ 36 rfl rfl; simp [execOp, e34, e36, go_sem]
      · exact obR_move _ rfl (want_none rfl) (by kernel_rfl) (eval_dst hEA (j := 4) rfl rfl)
      · refine obR_val (want_is hEA (g := 5) (x := false) (b := false) rfl rfl rfl rfl) (by kernel_rfl) (fun ph w' hp hpm hw => ?_)
        have hc0 := (hw.cell (p := ⟨g5, 0, none⟩) b5.lt).trans (b5.c 0 _ rfl)
        have hc1 := (hw.cell (p := ⟨g5, 1, none⟩) b5.lt).trans (b5.c 1 _ rfl)
        have e5 : Fr.tmps[5]? = some (.pointer (some ⟨g5, 0, none⟩)) := at_out hEA (d := 5) (by kernel_rfl); simp [execOp, e5, hc0, hc1, go_sem]
      · refine obR_val (want_is hEA (g := 5) (x := false) (b := false) rfl rfl rfl rfl) (by kernel_rfl) (fun ph w' hp hpm hw => ?_)
        have hc0 := (hw.cell (p := ⟨g7, 0, none⟩) b7.lt).trans (b7.c 0 _ rfl)
        have hc1 := (hw.cell (p := ⟨g7, 1, none⟩) b7.lt).trans (b7.c 1 _ rfl)
        have e7 : Fr.tmps[7]? = some (.pointer (some ⟨g7, 0, none⟩)) := at_out hEA (d := 7) (by kernel_rfl); simp [execOp, e7, hc0, hc1, go_sem]
      · refine obR_val (want_is hEA (g := 5) (x := false) (b := false) rfl rfl rfl rfl) (by kernel_rfl) (fun ph w' hp hpm hw => ?_)
        have e39 : Fr.tmps[39]? = some (.agg #[.int .i64 u1, .int .i64 u2]) := hEA.dst 6 _ 39 rfl rfl; have e40 : Fr.tmps[40]? = some (.agg #[.int .i64 u1, .int .i64 u2]) := hEA.dst 7 _ 40 rfl rfl; simp [execOp, e39, e40, go_sem]
      · refine obR_val (want_none rfl) (by kernel_rfl) (fun ph w' hp hpm hw => ?_)
        have e38 : Fr.tmps[38]? = some (.bool false) := hEA.dst 5 _ 38 rfl rfl; have e41 : Fr.tmps[41]? = some (.bool false) := hEA.dst 8 _ 41 rfl rfl; simp [execOp, e38, e41, go_sem]
      · exact obR_move _ rfl (want_none rfl) (by kernel_rfl) (eval_dst hEA (j := 9) rfl rfl)
      · exact obR_move _ rfl (want_is hEA (g := 10) (x := false) (b := false) rfl rfl rfl rfl) (by kernel_rfl) (eval_out hEA (d := 6) (by kernel_rfl))
      · exact obR_move _ rfl (want_is hEA (g := 10) (x := false) (b := false) rfl rfl rfl rfl) (by kernel_rfl) (eval_out hEA (d := 8) (by kernel_rfl))
      · refine obR_val (want_is hEA (g := 10) (x := false) (b := false) rfl rfl rfl rfl) (by kernel_rfl) (fun ph w' hp hpm hw => ?_)
        have e44 : Fr.tmps[44]? = some (.bool uk) := hEA.dst 11 _ 44 rfl rfl; have e45 : Fr.tmps[45]? = some (.bool uk) := hEA.dst 12 _ 45 rfl rfl; simp [execOp, e44, e45, go_sem]
      · refine obR_val (want_none rfl) (by kernel_rfl) (fun ph w' hp hpm hw => ?_)
        have e43 : Fr.tmps[43]? = some (.bool false) := hEA.dst 10 _ 43 rfl rfl; have e46 : Fr.tmps[46]? = some (.bool false) := hEA.dst 13 _ 46 rfl rfl; simp [execOp, e43, e46, go_sem]
      · exact obR_move _ rfl (want_none rfl) (by kernel_rfl) (eval_dst hEA (j := 14) rfl rfl)
      · refine obR_val (want_is hEA (g := 15) (x := false) (b := false) rfl rfl rfl rfl) (by kernel_rfl) (fun ph w' hp hpm hw => ?_)
        have hc0 := (hw.cell (p := ⟨g9, 0, none⟩) b9.lt).trans (b9.c 0 _ rfl)
        have hc1 := (hw.cell (p := ⟨g9, 1, none⟩) b9.lt).trans (b9.c 1 _ rfl)
        have e9 : Fr.tmps[9]? = some (.pointer (some ⟨g9, 0, none⟩)) := at_out hEA (d := 9) (by kernel_rfl); simp [execOp, e9, hc0, hc1, go_sem]
      · refine obR_val (want_is hEA (g := 15) (x := false) (b := false) rfl rfl rfl rfl) (by kernel_rfl) (fun ph w' hp hpm hw => ?_)
        have hc0 := (hw.cell (p := ⟨g11, 0, none⟩) b11.lt).trans (b11.c 0 _ rfl)
        have hc1 := (hw.cell (p := ⟨g11, 1, none⟩) b11.lt).trans (b11.c 1 _ rfl)
        have e11 : Fr.tmps[11]? = some (.pointer (some ⟨g11, 0, none⟩)) := at_out hEA (d := 11) (by kernel_rfl); simp [execOp, e11, hc0, hc1, go_sem]
      · refine obR_val (want_is hEA (g := 15) (x := false) (b := false) rfl rfl rfl rfl) (by kernel_rfl) (fun ph w' hp hpm hw => ?_)
        have e49 : Fr.tmps[49]? = some (.agg #[.int .i64 d1, .int .i64 d2]) := hEA.dst 16 _ 49 rfl rfl; have e50 : Fr.tmps[50]? = some (.agg #[.int .i64 d1, .int .i64 d2]) := hEA.dst 17 _ 50 rfl rfl; simp [execOp, e49, e50, go_sem]
      · refine obR_val (want_none rfl) (by kernel_rfl) (fun ph w' hp hpm hw => ?_)
        have e48 : Fr.tmps[48]? = some (.bool false) := hEA.dst 15 _ 48 rfl rfl; have e51 : Fr.tmps[51]? = some (.bool false) := hEA.dst 18 _ 51 rfl rfl; simp [execOp, e48, e51, go_sem]
      · exact obR_move _ rfl (want_none rfl) (by kernel_rfl) (eval_dst hEA (j := 19) rfl rfl)
      · exact obR_move _ rfl (want_is hEA (g := 20) (x := false) (b := false) rfl rfl rfl rfl) (by kernel_rfl) (eval_out hEA (d := 10) (by kernel_rfl))
      · exact obR_move _ rfl (want_is hEA (g := 20) (x := false) (b := false) rfl rfl rfl rfl) (by kernel_rfl) (eval_out hEA (d := 12) (by kernel_rfl))
      · refine obR_val (want_is hEA (g := 20) (x := false) (b := false) rfl rfl rfl rfl) (by kernel_rfl) (fun ph w' hp hpm hw => ?_)
        have e54 : Fr.tmps[54]? = some (.bool dk) := hEA.dst 21 _ 54 rfl rfl; have e55 : Fr.tmps[55]? = some (.bool dk) := hEA.dst 22 _ 55 rfl rfl; simp [execOp, e54, e55, go_sem]
      · refine obR_val (want_none rfl) (by kernel_rfl) (fun ph w' hp hpm hw => ?_)
        have e53 : Fr.tmps[53]? = some (.bool false) := hEA.dst 20 _ 53 rfl rfl; have e56 : Fr.tmps[56]? = some (.bool false) := hEA.dst 23 _ 56 rfl rfl; simp [execOp, e53, e56, go_sem]
    · intro r w' hw
      simp only [laid, Act.put, List.setIfInBounds_toArray, List.set_cons_succ, List.set_cons_zero, List.getD_cons_succ, List.getD_cons_zero, Nat.zero_add, Nat.reduceAdd]
      obtain ⟨W9, hW9⟩ : ∃ W9, w' = W9 := ⟨_, rfl⟩
      rw [hW9] at hw
      rw [hW9]
      have hb : Below W8.heap.size W8 W9 := hw
      replace b0 := b0.next hb
      replace b5 := b5.next hb
      replace b7 := b7.next hb
      replace b9 := b9.next hb
      replace b11 := b11.next hb
      replace HX := Lib.hid (keeps_spots _ _ _ _ _ _ HX.out hb hb.size)
      replace B := B.trans (hb.mono B.size)
      clear hb
      clear hw hW9
      cases b with
      | false =>
        clear hb1
        go_wp2_with fail
        refine wp_region_results (fun r i => ([.bool true, .bool true, .slice A xs.length ca, .bool false, .bool true, .bool true, undef, undef, undef, undef, undef, undef, undef, undef, undef, undef, undef, undef, undef, undef, undef, undef, .bool true, .bool true, .bool true] : List Value).getD i undef) [0, 3] [0, 1, 1, 1, 2, 2, 2, 2, 2, 2, 2, 2, 2, 2, 2, 2, 2, 2, 2, 2, 2, 2, 2, 2, 2] (fun r q w' => (Below W9.heap.size W9 w')) (by kernel_rfl) (by kernel_rfl) (fun r => ⟨rfl, rfl, rfl, Nat.le_refl _, fun _ _ => rfl⟩) ?_ ?_
        · refine ObsR_of_ends (by kernel_rfl) ?_
          intro r Fr hEA
          refine ⟨?_, ?_, ?_, ?_, ?_, ?_, ?_, ?_, ?_, ?_, ?_, ?_, ?_, ?_, ?_, ?_, ?_, ?_, ?_, ?_, ?_, ?_, ?_, ?_, ?_, trivial⟩
          · refine obR_call (q := 0) (f := 14) (args := #[]) (want_none rfl) (by kernel_rfl) (fun w' => by simp [go_sem]) ?_
            intro w' hw
            refine (awake10_any w').mono ?_
            rintro e w2 ⟨rfl, hb⟩
            exact ⟨_, rfl, fun r' hr hv => ⟨rfl, hw.trans (hb.mono hw.size)⟩⟩
          · exact obR_move _ rfl (want_none rfl) (by kernel_rfl) (eval_dst hEA (j := 0) rfl rfl)
          · exact obR_move _ rfl (want_is hEA (g := 1) (x := true) (b := true) rfl rfl rfl rfl) (by kernel_rfl) (eval_out hEA (d := 0) (by kernel_rfl))
          · refine obR_call (q := 1) (f := 15) (args := #[.slice A xs.length ca]) (want_is hEA (g := 1) (x := true) (b := true) rfl rfl rfl rfl) (by kernel_rfl) (fun w' => by have e60 : Fr.tmps[60]? = some (.slice A xs.length ca) := hEA.dst 2 _ 60 rfl rfl; simp [e60, go_sem]) ?_
            intro w' hw
            refine (HSM.out _ w' (keeps_spots _ _ _ _ _ _ HX.out hw hw.size)).mono ?_
            rintro e w2 ⟨rfl, hb⟩
            exact ⟨_, rfl, fun r' hr hv => ⟨rfl, hw.trans (hb.mono hw.size)⟩⟩
          · refine obR_val (want_is hEA (g := 1) (x := true) (b := true) rfl rfl rfl rfl) (by kernel_rfl) (fun ph w' hp hpm hw => ?_)
            have e61 : Fr.tmps[61]? = some (.bool false) := hEA.dst 3 _ 61 rfl rfl; simp [execOp, e61, go_sem]
          · exact obR_move _ rfl (want_is hEA (g := 1) (x := true) (b := true) rfl rfl rfl rfl) (by kernel_rfl) (eval_dst hEA (j := 4) rfl rfl)
          · exact obR_skip (want_is hEA (g := 5) (x := true) (b := false) rfl rfl rfl rfl) (by kernel_rfl) rfl
          · exact obR_skip (want_is hEA (g := 5) (x := true) (b := false) rfl rfl rfl rfl) (by kernel_rfl) rfl
          · exact obR_skip (want_is hEA (g := 5) (x := true) (b := false) rfl rfl rfl rfl) (by kernel_rfl) rfl
          · exact obR_skip (want_is hEA (g := 5) (x := true) (b := false) rfl rfl rfl rfl) (by kernel_rfl) rfl
          · exact obR_skip (want_is hEA (g := 5) (x := true) (b := false) rfl rfl rfl rfl) (by kernel_rfl) rfl
          · exact obR_skip (want_is hEA (g := 5) (x := true) (b := false) rfl rfl rfl rfl) (by kernel_rfl) rfl
          · exact obR_skip (want_is hEA (g := 5) (x := true) (b := false) rfl rfl rfl rfl) (by kernel_rfl) rfl
          · exact obR_skip (want_is hEA (g := 5) (x := true) (b := false) rfl rfl rfl rfl) (by kernel_rfl) rfl
          · exact obR_skip (want_undef hEA (g := 13) rfl rfl rfl rfl) (by kernel_rfl) rfl
          · exact obR_skip (want_undef hEA (g := 13) rfl rfl rfl rfl) (by kernel_rfl) rfl
          · exact obR_skip (want_undef hEA (g := 13) rfl rfl rfl rfl) (by kernel_rfl) rfl
          · exact obR_skip (want_undef hEA (g := 13) rfl rfl rfl rfl) (by kernel_rfl) rfl
          · exact obR_skip (want_undef hEA (g := 13) rfl rfl rfl rfl) (by kernel_rfl) rfl
          · exact obR_skip (want_undef hEA (g := 13) rfl rfl rfl rfl) (by kernel_rfl) rfl
          · exact obR_skip (want_undef hEA (g := 13) rfl rfl rfl rfl) (by kernel_rfl) rfl
          · exact obR_skip (want_is hEA (g := 5) (x := true) (b := false) rfl rfl rfl rfl) (by kernel_rfl) rfl
          · refine obR_val (want_is hEA (g := 1) (x := true) (b := true) rfl rfl rfl rfl) (by kernel_rfl) (fun ph w' hp hpm hw => ?_)
            have e63 : Fr.tmps[63]? = some (.bool true) := hEA.dst 5 _ 63 rfl rfl; have e79 : Fr.tmps[79]? = some (undef) := hEA.dst 21 _ 79 rfl rfl; simp [execOp, e63, e79, go_sem]
          · refine obR_val (want_none rfl) (by kernel_rfl) (fun ph w' hp hpm hw => ?_)
            have e59 : Fr.tmps[59]? = some (.bool true) := hEA.dst 1 _ 59 rfl rfl; have e80 : Fr.tmps[80]? = some (.bool true) := hEA.dst 22 _ 80 rfl rfl; simp [execOp, e59, e80, go_sem]
          · refine obR_val (want_none rfl) (by kernel_rfl) (fun ph w' hp hpm hw => ?_)
            have e81 : Fr.tmps[81]? = some (.bool true) := hEA.dst 23 _ 81 rfl rfl; simp [execOp, e81, go_sem]
        · intro r w' hw
          simp only [laid, Act.put, List.setIfInBounds_toArray, List.set_cons_succ, List.set_cons_zero, List.getD_cons_succ, List.getD_cons_zero, Nat.zero_add, Nat.reduceAdd]
          go_wp2
          go_ret
          exact ⟨rfl, B.trans (hw.mono B.size)⟩
      | true =>
        obtain ⟨ot, rfl, hok, hht⟩ := hb1 rfl
        have hn : (spo ot).length ≤ 1000000 := by have := (okT_parts hok).1; omega
        have hpl : (partO ot L I).length ≤ 1000000 := by
          rcases at_part ot L I with ⟨_, e⟩ | ⟨o, u, _, e, hle, _⟩
          · rw [e]; exact Nat.zero_le _
          · rw [e]; omega
        clear hb1
        go_wp2_with fail
        refine wp_region_results (fun r i => ([.bool true, .bool true, .slice A (spo ot).length ca, .bool true, .bool false, .bool false, .slice A (spo ot).length ca, .agg #[.int .i64 L, .int .i64 I], .int .i64 (atO ot L I), .slice A (spo ot).length ca, .agg #[.int .i64 L, .int .i64 I], .int .i64 (atO ot L I), .bool true, .bool true, .slice A (spo ot).length ca, .agg #[.int .i64 L, .int .i64 I], (r 4), .slice A (spo ot).length ca, .agg #[.int .i64 L, .int .i64 I], (r 5), .bool true, .bool true, .bool true, .bool true, .bool true] : List Value).getD i undef) [0, 3, 8, 11, 16, 19, 20] [0, 1, 1, 1, 2, 2, 2, 2, 2, 2, 2, 3, 4, 4, 4, 4, 4, 4, 4, 5, 6, 7, 7, 7, 7] (fun r q w' => (Below W9.heap.size W9 w') ∧ (4 < q → Spots w'.heap.size w' (partO ot L I) [(r 4)]) ∧ (5 < q → Spots w'.heap.size w' (partO ot L I) [(r 5)])) (by kernel_rfl) (by kernel_rfl) (fun r => ⟨⟨rfl, rfl, rfl, Nat.le_refl _, fun _ _ => rfl⟩, fun h => absurd h (Nat.not_lt_zero _), fun h => absurd h (Nat.not_lt_zero _)⟩) ?_ ?_
        · refine ObsR_of_ends (by kernel_rfl) ?_
          intro r Fr hEA
          refine ⟨?_, ?_, ?_, ?_, ?_, ?_, ?_, ?_, ?_, ?_, ?_, ?_, ?_, ?_, ?_, ?_, ?_, ?_, ?_, ?_, ?_, ?_, ?_, ?_, ?_, trivial⟩
          · refine obR_call (q := 0) (f := 14) (args := #[]) (want_none rfl) (by kernel_rfl) (fun w' => by simp [go_sem]) ?_
            intro w' hw
            refine (awake10_any w').mono ?_
            rintro e w2 ⟨rfl, hb⟩
            exact ⟨_, rfl, fun r' hr hv => ⟨rfl, ⟨hw.1.trans (hb.mono hw.1.size), fun h => absurd h (by decide), fun h => absurd h (by decide)⟩⟩⟩
          · exact obR_move _ rfl (want_none rfl) (by kernel_rfl) (eval_dst hEA (j := 0) rfl rfl)
          · exact obR_move _ rfl (want_is hEA (g := 1) (x := true) (b := true) rfl rfl rfl rfl) (by kernel_rfl) (eval_out hEA (d := 0) (by kernel_rfl))
          · refine obR_call (q := 1) (f := 15) (args := #[.slice A (spo ot).length ca]) (want_is hEA (g := 1) (x := true) (b := true) rfl rfl rfl rfl) (by kernel_rfl) (fun w' => by have e60 : Fr.tmps[60]? = some (.slice A (spo ot).length ca) := hEA.dst 2 _ 60 rfl rfl; simp [e60, go_sem]) ?_
            intro w' hw
            refine (HSM.out _ w' (keeps_spots _ _ _ _ _ _ HX.out hw.1 hw.1.size)).mono ?_
            rintro e w2 ⟨rfl, hb⟩
            exact ⟨_, rfl, fun r' hr hv => ⟨rfl, ⟨hw.1.trans (hb.mono hw.1.size), fun h => absurd h (by decide), fun h => absurd h (by decide)⟩⟩⟩
          · refine obR_val (want_is hEA (g := 1) (x := true) (b := true) rfl rfl rfl rfl) (by kernel_rfl) (fun ph w' hp hpm hw => ?_)
            have e61 : Fr.tmps[61]? = some (.bool true) := hEA.dst 3 _ 61 rfl rfl; simp [execOp, e61, go_sem]
          · exact obR_move _ rfl (want_is hEA (g := 1) (x := true) (b := true) rfl rfl rfl rfl) (by kernel_rfl) (eval_dst hEA (j := 4) rfl rfl)
          · exact obR_move _ rfl (want_is hEA (g := 5) (x := false) (b := false) rfl rfl rfl rfl) (by kernel_rfl) (eval_out hEA (d := 0) (by kernel_rfl))
          · refine obR_val (want_is hEA (g := 5) (x := false) (b := false) rfl rfl rfl rfl) (by kernel_rfl) (fun ph w' hp hpm hw => ?_)
            have hc0 := (hw.1.cell (p := ⟨w.heap.size, 0, none⟩) b0.lt).trans (b0.c 0 _ rfl)
            have hc1 := (hw.1.cell (p := ⟨w.heap.size, 1, none⟩) b0.lt).trans (b0.c 1 _ rfl)
            have e3 : Fr.tmps[3]? = some (.pointer (some ⟨w.heap.size, 0, none⟩)) := at_out hEA (d := 3) (by kernel_rfl); simp [execOp, e3, hc0, hc1, go_sem]
          · refine obR_call (q := 2) (f := 16) (args := #[.slice A (spo ot).length ca, .agg #[.int .i64 L, .int .i64 I]]) (want_is hEA (g := 5) (x := false) (b := false) rfl rfl rfl rfl) (by kernel_rfl) (fun w' => by have e64 : Fr.tmps[64]? = some (.slice A (spo ot).length ca) := hEA.dst 6 _ 64 rfl rfl; have e65 : Fr.tmps[65]? = some (.agg #[.int .i64 L, .int .i64 I]) := hEA.dst 7 _ 65 rfl rfl; simp [e64, e65, go_sem]) ?_
            intro w' hw
            refine (lAt_any _ ot L I w' (keeps_spots _ _ _ _ _ _ HX.out hw.1 hw.1.size) hok hht).mono ?_
            rintro e w2 ⟨rfl, hb⟩
            exact ⟨_, rfl, fun r' hr hv => ⟨rfl, ⟨hw.1.trans (hb.mono hw.1.size), fun h => absurd h (by decide), fun h => absurd h (by decide)⟩⟩⟩
          · exact obR_move _ rfl (want_is hEA (g := 5) (x := false) (b := false) rfl rfl rfl rfl) (by kernel_rfl) (eval_out hEA (d := 0) (by kernel_rfl))
          · refine obR_val (want_is hEA (g := 5) (x := false) (b := false) rfl rfl rfl rfl) (by kernel_rfl) (fun ph w' hp hpm hw => ?_)
            have hc0 := (hw.1.cell (p := ⟨w.heap.size, 0, none⟩) b0.lt).trans (b0.c 0 _ rfl)
            have hc1 := (hw.1.cell (p := ⟨w.heap.size, 1, none⟩) b0.lt).trans (b0.c 1 _ rfl)
            have e3 : Fr.tmps[3]? = some (.pointer (some ⟨w.heap.size, 0, none⟩)) := at_out hEA (d := 3) (by kernel_rfl); simp [execOp, e3, hc0, hc1, go_sem]
          · refine obR_call (q := 3) (f := 17) (args := #[.slice A (spo ot).length ca, .agg #[.int .i64 L, .int .i64 I]]) (want_is hEA (g := 5) (x := false) (b := false) rfl rfl rfl rfl) (by kernel_rfl) (fun w' => by have e67 : Fr.tmps[67]? = some (.slice A (spo ot).length ca) := hEA.dst 9 _ 67 rfl rfl; have e68 : Fr.tmps[68]? = some (.agg #[.int .i64 L, .int .i64 I]) := hEA.dst 10 _ 68 rfl rfl; simp [e67, e68, go_sem]) ?_
            intro w' hw
            refine (refAt_any _ ot L I w' (keeps_spots _ _ _ _ _ _ HX.out hw.1 hw.1.size) hn).mono ?_
            rintro e w2 ⟨rfl, hb⟩
            exact ⟨_, rfl, fun r' hr hv => ⟨rfl, ⟨hw.1.trans (hb.mono hw.1.size), fun h => absurd h (by decide), fun h => absurd h (by decide)⟩⟩⟩
          · refine obR_val (want_is hEA (g := 5) (x := false) (b := false) rfl rfl rfl rfl) (by kernel_rfl) (fun ph w' hp hpm hw => ?_)
            have e66 : Fr.tmps[66]? = some (.int .i64 (atO ot L I)) := hEA.dst 8 _ 66 rfl rfl; have e69 : Fr.tmps[69]? = some (.int .i64 (atO ot L I)) := hEA.dst 11 _ 69 rfl rfl; simp [execOp, e66, e69, go_sem]
          · exact obR_move _ rfl (want_is hEA (g := 5) (x := false) (b := false) rfl rfl rfl rfl) (by kernel_rfl) (eval_dst hEA (j := 12) rfl rfl)
          · exact obR_move _ rfl (want_is hEA (g := 13) (x := true) (b := true) rfl rfl rfl rfl) (by kernel_rfl) (eval_out hEA (d := 0) (by kernel_rfl))
          · refine obR_val (want_is hEA (g := 13) (x := true) (b := true) rfl rfl rfl rfl) (by kernel_rfl) (fun ph w' hp hpm hw => ?_)
            have hc0 := (hw.1.cell (p := ⟨w.heap.size, 0, none⟩) b0.lt).trans (b0.c 0 _ rfl)
            have hc1 := (hw.1.cell (p := ⟨w.heap.size, 1, none⟩) b0.lt).trans (b0.c 1 _ rfl)
            have e3 : Fr.tmps[3]? = some (.pointer (some ⟨w.heap.size, 0, none⟩)) := at_out hEA (d := 3) (by kernel_rfl); simp [execOp, e3, hc0, hc1, go_sem]
          · refine obR_call (q := 4) (f := 19) (args := #[.slice A (spo ot).length ca, .agg #[.int .i64 L, .int .i64 I]]) (want_is hEA (g := 13) (x := true) (b := true) rfl rfl rfl rfl) (by kernel_rfl) (fun w' => by have e72 : Fr.tmps[72]? = some (.slice A (spo ot).length ca) := hEA.dst 14 _ 72 rfl rfl; have e73 : Fr.tmps[73]? = some (.agg #[.int .i64 L, .int .i64 I]) := hEA.dst 15 _ 73 rfl rfl; simp [e72, e73, go_sem]) ?_
            intro w' hw
            refine (lPart_any _ ot L I w' (keeps_spots _ _ _ _ _ _ HX.out hw.1 hw.1.size) hok hht).mono ?_
            rintro e w2 ⟨v', rfl, hs, hb⟩
            exact ⟨_, rfl, fun r' hr hv => ⟨hv, ⟨hw.1.trans (hb.mono hw.1.size), fun _ => by rw [hv]; exact hs, fun h => absurd h (by decide)⟩⟩⟩
          · exact obR_move _ rfl (want_is hEA (g := 13) (x := true) (b := true) rfl rfl rfl rfl) (by kernel_rfl) (eval_out hEA (d := 0) (by kernel_rfl))
          · refine obR_val (want_is hEA (g := 13) (x := true) (b := true) rfl rfl rfl rfl) (by kernel_rfl) (fun ph w' hp hpm hw => ?_)
            have hc0 := (hw.1.cell (p := ⟨w.heap.size, 0, none⟩) b0.lt).trans (b0.c 0 _ rfl)
            have hc1 := (hw.1.cell (p := ⟨w.heap.size, 1, none⟩) b0.lt).trans (b0.c 1 _ rfl)
            have e3 : Fr.tmps[3]? = some (.pointer (some ⟨w.heap.size, 0, none⟩)) := at_out hEA (d := 3) (by kernel_rfl); simp [execOp, e3, hc0, hc1, go_sem]
          · refine obR_call (q := 5) (f := 20) (args := #[.slice A (spo ot).length ca, .agg #[.int .i64 L, .int .i64 I]]) (want_is hEA (g := 13) (x := true) (b := true) rfl rfl rfl rfl) (by kernel_rfl) (fun w' => by have e75 : Fr.tmps[75]? = some (.slice A (spo ot).length ca) := hEA.dst 17 _ 75 rfl rfl; have e76 : Fr.tmps[76]? = some (.agg #[.int .i64 L, .int .i64 I]) := hEA.dst 18 _ 76 rfl rfl; simp [e75, e76, go_sem]) ?_
            intro w' hw
            refine (refPart_any _ ot L I w' (keeps_spots _ _ _ _ _ _ HX.out hw.1 hw.1.size) hn).mono ?_
            rintro e w2 ⟨v', rfl, hs, hb⟩
            exact ⟨_, rfl, fun r' hr hv => ⟨hv, ⟨hw.1.trans (hb.mono hw.1.size), fun _ => by rw [hr 4 (by decide)]; exact keeps_spots _ _ _ _ _ _ (hw.2.1 (by decide)) hb hb.size, fun _ => by rw [hv]; exact hs⟩⟩⟩
          · refine obR_call (q := 6) (f := 18) (args := #[(r 4), (r 5)]) (want_is hEA (g := 13) (x := true) (b := true) rfl rfl rfl rfl) (by kernel_rfl) (fun w' => by have e74 : Fr.tmps[74]? = some ((r 4)) := hEA.dst 16 _ 74 rfl rfl; have e77 : Fr.tmps[77]? = some ((r 5)) := hEA.dst 19 _ 77 rfl rfl; simp [e74, e77, go_sem]) ?_
            intro w' hw
            refine ((show Calls _ _ _ _ (fun e W' => e = .returned (.bool true) ∧ Below w'.heap.size w' W') from by have := sameS_any (r 4) (r 5) (partO ot L I) (partO ot L I) w' (hw.2.1 (by decide)) (hw.2.2 (by decide)) hpl; rwa [show decide (partO ot L I = partO ot L I) = true from decide_eq_true rfl] at this)).mono ?_
            rintro e w2 ⟨rfl, hb⟩
            exact ⟨_, rfl, fun r' hr hv => ⟨rfl, ⟨hw.1.trans (hb.mono hw.1.size), fun _ => by rw [hr 4 (by decide)]; exact keeps_spots _ _ _ _ _ _ (hw.2.1 (by decide)) hb hb.size, fun _ => by rw [hr 5 (by decide)]; exact keeps_spots _ _ _ _ _ _ (hw.2.2 (by decide)) hb hb.size⟩⟩⟩
          · refine obR_val (want_is hEA (g := 5) (x := false) (b := false) rfl rfl rfl rfl) (by kernel_rfl) (fun ph w' hp hpm hw => ?_)
            have e71 : Fr.tmps[71]? = some (.bool true) := hEA.dst 13 _ 71 rfl rfl; have e78 : Fr.tmps[78]? = some (.bool true) := hEA.dst 20 _ 78 rfl rfl; simp [execOp, e71, e78, go_sem]
          · refine obR_val (want_is hEA (g := 1) (x := true) (b := true) rfl rfl rfl rfl) (by kernel_rfl) (fun ph w' hp hpm hw => ?_)
            have e63 : Fr.tmps[63]? = some (.bool false) := hEA.dst 5 _ 63 rfl rfl; have e79 : Fr.tmps[79]? = some (.bool true) := hEA.dst 21 _ 79 rfl rfl; simp [execOp, e63, e79, go_sem]
          · refine obR_val (want_none rfl) (by kernel_rfl) (fun ph w' hp hpm hw => ?_)
            have e59 : Fr.tmps[59]? = some (.bool true) := hEA.dst 1 _ 59 rfl rfl; have e80 : Fr.tmps[80]? = some (.bool true) := hEA.dst 22 _ 80 rfl rfl; simp [execOp, e59, e80, go_sem]
          · refine obR_val (want_none rfl) (by kernel_rfl) (fun ph w' hp hpm hw => ?_)
            have e81 : Fr.tmps[81]? = some (.bool true) := hEA.dst 23 _ 81 rfl rfl; simp [execOp, e81, go_sem]
        · intro r w' hw
          simp only [laid, Act.put, List.setIfInBounds_toArray, List.set_cons_succ, List.set_cons_zero, List.getD_cons_succ, List.getD_cons_zero, Nat.zero_add, Nat.reduceAdd]
          go_wp2
          go_ret
          exact ⟨rfl, B.trans (hw.1.mono B.size)⟩

end Go.Proofs.Ytoddcpkogapolaa
