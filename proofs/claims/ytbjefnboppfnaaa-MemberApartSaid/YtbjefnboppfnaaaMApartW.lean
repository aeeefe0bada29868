/- lodgelaw08.MemberApart answers true, whatever two members and two ids come in, and leaves memory below as it was. No condition. -/
import Derived.Test.YtbjefnboppfnaaaAwake8
import Derived.Test.YtbjefnboppfnaaaMTellsW
namespace Go.Proofs.Ytbjefnboppfnaaa
open Go.RowKit
set_option linter.unusedVariables false

set_option maxRecDepth 100000 in
set_option maxHeartbeats 8000000 in
theorem memberApart_ss (a b p q r : Int) (w : World) (ok0 : okM a b = true) (ok1 : okM a b = true) (ok2 : okV p q r = true) (ok3 : okV p q r = true)  :
    Calls Try.prog 7 #[.agg #[.int .i64 a, .int .i64 b, .int .i64 a, .int .i64 b], .agg #[.int .i64 p, .int .i64 q, .int .i64 r, .int .i64 p, .int .i64 q, .int .i64 r]] w fun e w' => e = .returned (.bool true) ∧ Below w.heap.size w w' := by
  go_enter Try.func7, Try.ntmps7
  go_wp2_with fail
  obtain ⟨W0, hW0, bm, bv, B⟩ := new2 w [.int .i64 a, .int .i64 b, .int .i64 a, .int .i64 b] [.int .i64 p, .int .i64 q, .int .i64 r, .int .i64 p, .int .i64 q, .int .i64 r] 47 48
  rw [hW0]
  clear hW0
  refine (Calls.mono (R := fun E W' => E = .returned (.bool true) ∧ Below W0.heap.size W0 W') (by have := mright_any a b W0; rwa [ok0] at this) ?_)
  rintro e W1 ⟨rfl, hb⟩
  replace bm := bm.next hb
  replace bv := bv.next hb
  replace B := B.trans (hb.mono B.size)
  clear hb
  have x0 := bm.c 0 _ rfl
  have x1 := bm.c 1 _ rfl
  have x2 := bm.c 2 _ rfl
  have x3 := bm.c 3 _ rfl
  have y0 := bv.c 0 _ rfl
  have y1 := bv.c 1 _ rfl
  have y2 := bv.c 2 _ rfl
  have y3 := bv.c 3 _ rfl
  have y4 := bv.c 4 _ rfl
  have y5 := bv.c 5 _ rfl
  go_wp2_with fail
  clear x0 x1 x2 x3 y0 y1 y2 y3 y4 y5
  refine (Calls.mono (R := fun E W' => E = .returned (.bool true) ∧ Below W1.heap.size W1 W') (by have := mright_any a b W1; rwa [ok1] at this) ?_)
  rintro e W2 ⟨rfl, hb⟩
  replace bm := bm.next hb
  replace bv := bv.next hb
  replace B := B.trans (hb.mono B.size)
  clear hb
  have x0 := bm.c 0 _ rfl
  have x1 := bm.c 1 _ rfl
  have x2 := bm.c 2 _ rfl
  have x3 := bm.c 3 _ rfl
  have y0 := bv.c 0 _ rfl
  have y1 := bv.c 1 _ rfl
  have y2 := bv.c 2 _ rfl
  have y3 := bv.c 3 _ rfl
  have y4 := bv.c 4 _ rfl
  have y5 := bv.c 5 _ rfl
  go_wp2_with fail
  clear x0 x1 x2 x3 y0 y1 y2 y3 y4 y5
  refine (Calls.mono (R := fun E W' => E = .returned (.bool true) ∧ Below W2.heap.size W2 W') (by have := id_any p q r W2; rwa [ok2] at this) ?_)
  rintro e W3 ⟨rfl, hb⟩
  replace bm := bm.next hb
  replace bv := bv.next hb
  replace B := B.trans (hb.mono B.size)
  clear hb
  have x0 := bm.c 0 _ rfl
  have x1 := bm.c 1 _ rfl
  have x2 := bm.c 2 _ rfl
  have x3 := bm.c 3 _ rfl
  have y0 := bv.c 0 _ rfl
  have y1 := bv.c 1 _ rfl
  have y2 := bv.c 2 _ rfl
  have y3 := bv.c 3 _ rfl
  have y4 := bv.c 4 _ rfl
  have y5 := bv.c 5 _ rfl
  go_wp2_with fail
  clear x0 x1 x2 x3 y0 y1 y2 y3 y4 y5
  refine (Calls.mono (R := fun E W' => E = .returned (.bool true) ∧ Below W3.heap.size W3 W') (by have := id_any p q r W3; rwa [ok3] at this) ?_)
  rintro e W4 ⟨rfl, hb⟩
  replace bm := bm.next hb
  replace bv := bv.next hb
  replace B := B.trans (hb.mono B.size)
  clear hb
  go_wp2_with fail
  refine wp_region_plan (fun i => ([.bool true, .bool true, .pointer (some ⟨w.heap.size, 0, none⟩), .agg #[.int .i64 a, .int .i64 b], .string (tx (layM a b)), .pointer (some ⟨w.heap.size, 2, none⟩), .agg #[.int .i64 a, .int .i64 b], .string (tx (layM a b)), .bool true, .pointer (some ⟨w.heap.size, 0, none⟩), .agg #[.int .i64 a, .int .i64 b], .pointer (some ⟨w.heap.size, 2, none⟩), .agg #[.int .i64 a, .int .i64 b], .bool true, .bool true, .bool true, .bool true, .pointer (some ⟨w.heap.size + 1, 0, none⟩), .agg #[.int .i64 p, .int .i64 q, .int .i64 r], .string (tx (layV p q r)), .pointer (some ⟨w.heap.size + 1, 3, none⟩), .agg #[.int .i64 p, .int .i64 q, .int .i64 r], .string (tx (layV p q r)), .bool true, .pointer (some ⟨w.heap.size + 1, 0, none⟩), .agg #[.int .i64 p, .int .i64 q, .int .i64 r], .pointer (some ⟨w.heap.size + 1, 3, none⟩), .agg #[.int .i64 p, .int .i64 q, .int .i64 r], .bool true, .bool true, .bool true, .bool true, .pointer (some ⟨w.heap.size, 0, none⟩), .agg #[.int .i64 a, .int .i64 b], .string (tx (layM a b)), .int .i64 8, .bool true, .bool true, .bool true, .pointer (some ⟨w.heap.size + 1, 0, none⟩), .agg #[.int .i64 p, .int .i64 q, .int .i64 r], .string (tx (layV p q r)), .int .i64 12, .bool true, .bool true, .bool true] : List Value).getD i undef) [0, 4, 7, 19, 22, 34, 41] [0, 1, 1, 1, 1, 1, 1, 2, 3, 1, 1, 1, 1, 1, 3, 3, 3, 3, 3, 3, 3, 3, 4, 5, 3, 3, 3, 3, 3, 5, 5, 5, 5, 5, 5, 6, 6, 6, 6, 6, 6, 6, 7, 7, 7, 7] (fun _ w' => Below W4.heap.size W4 w') (by kernel_rfl) (by kernel_rfl) (⟨rfl, rfl, rfl, Nat.le_refl _, fun _ _ => rfl⟩) ?_ ?_
  · refine Obs_of_ends (by kernel_rfl) ?_
    intro Fr hEA
    refine ⟨?_, ?_, ?_, ?_, ?_, ?_, ?_, ?_, ?_, ?_, ?_, ?_, ?_, ?_, ?_, ?_, ?_, ?_, ?_, ?_, ?_, ?_, ?_, ?_, ?_, ?_, ?_, ?_, ?_, ?_, ?_, ?_, ?_, ?_, ?_, ?_, ?_, ?_, ?_, ?_, ?_, ?_, ?_, ?_, ?_, ?_, trivial⟩
    · refine ob_call (q := 0) (f := 8) (args := #[]) (want_none rfl) (by kernel_rfl) (fun w' => by simp [go_sem]) ?_
      intro w' hw
      refine (Calls.mono (R := fun E W' => E = .returned (.bool true) ∧ Below w'.heap.size w' W') (awake8_any w') ?_)
      rintro e w2 ⟨rfl, hb⟩
      exact ⟨rfl, hw.trans (hb.mono hw.size)⟩
    · exact ob_move _ rfl (want_none rfl) (by kernel_rfl) (eval_dst hEA (j := 0) rfl rfl)
    · refine ob_val (want_is hEA (g := 1) (x := true) (b := true) rfl rfl rfl rfl) (by kernel_rfl) (fun ph w' hp hpm hw => ?_)
      have e2 : Fr.tmps[2]? = some (.pointer (some ⟨w.heap.size, 0, none⟩)) := at_out hEA (d := 2) (by kernel_rfl); simp [execOp, e2, go_sem]
    · refine ob_val (want_is hEA (g := 1) (x := true) (b := true) rfl rfl rfl rfl) (by kernel_rfl) (fun ph w' hp hpm hw => ?_)
      have hc0 := (hw.cell (p := ⟨w.heap.size, 0, none⟩) bm.lt).trans (bm.c 0 _ rfl)
      have hc1 := (hw.cell (p := ⟨w.heap.size, 1, none⟩) bm.lt).trans (bm.c 1 _ rfl)
      have e29 : Fr.tmps[29]? = some (.pointer (some ⟨w.heap.size, 0, none⟩)) := hEA.dst 2 _ 29 rfl rfl; simp [execOp, e29, hc0, hc1, go_sem]
    · refine ob_call (q := 1) (f := 19) (args := #[.agg #[.int .i64 a, .int .i64 b]]) (want_is hEA (g := 1) (x := true) (b := true) rfl rfl rfl rfl) (by kernel_rfl) (fun w' => by have e30 : Fr.tmps[30]? = some (.agg #[.int .i64 a, .int .i64 b]) := hEA.dst 3 _ 30 rfl rfl; simp [e30, go_sem]) ?_
      intro w' hw
      refine (Calls.mono (R := fun E W' => E = .returned (.string (tx (layM a b))) ∧ Below w'.heap.size w' W') (print_any a b w') ?_)
      rintro e w2 ⟨rfl, hb⟩
      exact ⟨rfl, hw.trans (hb.mono hw.size)⟩
    · refine ob_val (want_is hEA (g := 1) (x := true) (b := true) rfl rfl rfl rfl) (by kernel_rfl) (fun ph w' hp hpm hw => ?_)
      have e2 : Fr.tmps[2]? = some (.pointer (some ⟨w.heap.size, 0, none⟩)) := at_out hEA (d := 2) (by kernel_rfl); simp [execOp, e2, go_sem]
    · refine ob_val (want_is hEA (g := 1) (x := true) (b := true) rfl rfl rfl rfl) (by kernel_rfl) (fun ph w' hp hpm hw => ?_)
      have hc0 := (hw.cell (p := ⟨w.heap.size, 2, none⟩) bm.lt).trans (bm.c 2 _ rfl)
      have hc1 := (hw.cell (p := ⟨w.heap.size, 3, none⟩) bm.lt).trans (bm.c 3 _ rfl)
      have e32 : Fr.tmps[32]? = some (.pointer (some ⟨w.heap.size, 2, none⟩)) := hEA.dst 5 _ 32 rfl rfl; simp [execOp, e32, hc0, hc1, go_sem]
    · refine ob_call (q := 2) (f := 19) (args := #[.agg #[.int .i64 a, .int .i64 b]]) (want_is hEA (g := 1) (x := true) (b := true) rfl rfl rfl rfl) (by kernel_rfl) (fun w' => by have e33 : Fr.tmps[33]? = some (.agg #[.int .i64 a, .int .i64 b]) := hEA.dst 6 _ 33 rfl rfl; simp [e33, go_sem]) ?_
      intro w' hw
      refine (Calls.mono (R := fun E W' => E = .returned (.string (tx (layM a b))) ∧ Below w'.heap.size w' W') (print_any a b w') ?_)
      rintro e w2 ⟨rfl, hb⟩
      exact ⟨rfl, hw.trans (hb.mono hw.size)⟩
    · refine ob_val (want_is hEA (g := 1) (x := true) (b := true) rfl rfl rfl rfl) (by kernel_rfl) (fun ph w' hp hpm hw => ?_)
      have e31 : Fr.tmps[31]? = some (.string (tx (layM a b))) := hEA.dst 4 _ 31 rfl rfl; have e34 : Fr.tmps[34]? = some (.string (tx (layM a b))) := hEA.dst 7 _ 34 rfl rfl; simp [execOp, e31, e34, go_sem]
    · refine ob_val (want_is hEA (g := 1) (x := true) (b := true) rfl rfl rfl rfl) (by kernel_rfl) (fun ph w' hp hpm hw => ?_)
      have e2 : Fr.tmps[2]? = some (.pointer (some ⟨w.heap.size, 0, none⟩)) := at_out hEA (d := 2) (by kernel_rfl); simp [execOp, e2, go_sem]
    · refine ob_val (want_is hEA (g := 1) (x := true) (b := true) rfl rfl rfl rfl) (by kernel_rfl) (fun ph w' hp hpm hw => ?_)
      have hc0 := (hw.cell (p := ⟨w.heap.size, 0, none⟩) bm.lt).trans (bm.c 0 _ rfl)
      have hc1 := (hw.cell (p := ⟨w.heap.size, 1, none⟩) bm.lt).trans (bm.c 1 _ rfl)
      have e36 : Fr.tmps[36]? = some (.pointer (some ⟨w.heap.size, 0, none⟩)) := hEA.dst 9 _ 36 rfl rfl; simp [execOp, e36, hc0, hc1, go_sem]
    · refine ob_val (want_is hEA (g := 1) (x := true) (b := true) rfl rfl rfl rfl) (by kernel_rfl) (fun ph w' hp hpm hw => ?_)
      have e2 : Fr.tmps[2]? = some (.pointer (some ⟨w.heap.size, 0, none⟩)) := at_out hEA (d := 2) (by kernel_rfl); simp [execOp, e2, go_sem]
    · refine ob_val (want_is hEA (g := 1) (x := true) (b := true) rfl rfl rfl rfl) (by kernel_rfl) (fun ph w' hp hpm hw => ?_)
      have hc0 := (hw.cell (p := ⟨w.heap.size, 2, none⟩) bm.lt).trans (bm.c 2 _ rfl)
      have hc1 := (hw.cell (p := ⟨w.heap.size, 3, none⟩) bm.lt).trans (bm.c 3 _ rfl)
      have e38 : Fr.tmps[38]? = some (.pointer (some ⟨w.heap.size, 2, none⟩)) := hEA.dst 11 _ 38 rfl rfl; simp [execOp, e38, hc0, hc1, go_sem]
    · refine ob_val (want_is hEA (g := 1) (x := true) (b := true) rfl rfl rfl rfl) (by kernel_rfl) (fun ph w' hp hpm hw => ?_)
      have e37 : Fr.tmps[37]? = some (.agg #[.int .i64 a, .int .i64 b]) := hEA.dst 10 _ 37 rfl rfl; have e39 : Fr.tmps[39]? = some (.agg #[.int .i64 a, .int .i64 b]) := hEA.dst 12 _ 39 rfl rfl; simp [execOp, e37, e39, go_sem]
    · refine ob_val (want_is hEA (g := 1) (x := true) (b := true) rfl rfl rfl rfl) (by kernel_rfl) (fun ph w' hp hpm hw => ?_)
      have e35 : Fr.tmps[35]? = some (.bool true) := hEA.dst 8 _ 35 rfl rfl; have e40 : Fr.tmps[40]? = some (.bool true) := hEA.dst 13 _ 40 rfl rfl; simp [execOp, e35, e40, go_sem]
    · refine ob_val (want_none rfl) (by kernel_rfl) (fun ph w' hp hpm hw => ?_)
      have e28 : Fr.tmps[28]? = some (.bool true) := hEA.dst 1 _ 28 rfl rfl; have e41 : Fr.tmps[41]? = some (.bool true) := hEA.dst 14 _ 41 rfl rfl; simp [execOp, e28, e41, go_sem]
    · exact ob_move _ rfl (want_none rfl) (by kernel_rfl) (eval_dst hEA (j := 15) rfl rfl)
    · refine ob_val (want_is hEA (g := 16) (x := true) (b := true) rfl rfl rfl rfl) (by kernel_rfl) (fun ph w' hp hpm hw => ?_)
      have e3 : Fr.tmps[3]? = some (.pointer (some ⟨w.heap.size + 1, 0, none⟩)) := at_out hEA (d := 3) (by kernel_rfl); simp [execOp, e3, go_sem]
    · refine ob_val (want_is hEA (g := 16) (x := true) (b := true) rfl rfl rfl rfl) (by kernel_rfl) (fun ph w' hp hpm hw => ?_)
      have hc0 := (hw.cell (p := ⟨w.heap.size + 1, 0, none⟩) bv.lt).trans (bv.c 0 _ rfl)
      have hc1 := (hw.cell (p := ⟨w.heap.size + 1, 1, none⟩) bv.lt).trans (bv.c 1 _ rfl)
      have hc2 := (hw.cell (p := ⟨w.heap.size + 1, 2, none⟩) bv.lt).trans (bv.c 2 _ rfl)
      have e44 : Fr.tmps[44]? = some (.pointer (some ⟨w.heap.size + 1, 0, none⟩)) := hEA.dst 17 _ 44 rfl rfl; simp [execOp, e44, hc0, hc1, hc2, go_sem]
    · refine ob_call (q := 3) (f := 21) (args := #[.agg #[.int .i64 p, .int .i64 q, .int .i64 r]]) (want_is hEA (g := 16) (x := true) (b := true) rfl rfl rfl rfl) (by kernel_rfl) (fun w' => by have e45 : Fr.tmps[45]? = some (.agg #[.int .i64 p, .int .i64 q, .int .i64 r]) := hEA.dst 18 _ 45 rfl rfl; simp [e45, go_sem]) ?_
      intro w' hw
      refine (Calls.mono (R := fun E W' => E = .returned (.string (tx (layV p q r))) ∧ Below w'.heap.size w' W') (printId_any p q r w') ?_)
      rintro e w2 ⟨rfl, hb⟩
      exact ⟨rfl, hw.trans (hb.mono hw.size)⟩
    · refine ob_val (want_is hEA (g := 16) (x := true) (b := true) rfl rfl rfl rfl) (by kernel_rfl) (fun ph w' hp hpm hw => ?_)
      have e3 : Fr.tmps[3]? = some (.pointer (some ⟨w.heap.size + 1, 0, none⟩)) := at_out hEA (d := 3) (by kernel_rfl); simp [execOp, e3, go_sem]
    · refine ob_val (want_is hEA (g := 16) (x := true) (b := true) rfl rfl rfl rfl) (by kernel_rfl) (fun ph w' hp hpm hw => ?_)
      have hc0 := (hw.cell (p := ⟨w.heap.size + 1, 3, none⟩) bv.lt).trans (bv.c 3 _ rfl)
      have hc1 := (hw.cell (p := ⟨w.heap.size + 1, 4, none⟩) bv.lt).trans (bv.c 4 _ rfl)
      have hc2 := (hw.cell (p := ⟨w.heap.size + 1, 5, none⟩) bv.lt).trans (bv.c 5 _ rfl)
      have e47 : Fr.tmps[47]? = some (.pointer (some ⟨w.heap.size + 1, 3, none⟩)) := hEA.dst 20 _ 47 rfl rfl; simp [execOp, e47, hc0, hc1, hc2, go_sem]
    · refine ob_call (q := 4) (f := 21) (args := #[.agg #[.int .i64 p, .int .i64 q, .int .i64 r]]) (want_is hEA (g := 16) (x := true) (b := true) rfl rfl rfl rfl) (by kernel_rfl) (fun w' => by have e48 : Fr.tmps[48]? = some (.agg #[.int .i64 p, .int .i64 q, .int .i64 r]) := hEA.dst 21 _ 48 rfl rfl; simp [e48, go_sem]) ?_
      intro w' hw
      refine (Calls.mono (R := fun E W' => E = .returned (.string (tx (layV p q r))) ∧ Below w'.heap.size w' W') (printId_any p q r w') ?_)
      rintro e w2 ⟨rfl, hb⟩
      exact ⟨rfl, hw.trans (hb.mono hw.size)⟩
    · refine ob_val (want_is hEA (g := 16) (x := true) (b := true) rfl rfl rfl rfl) (by kernel_rfl) (fun ph w' hp hpm hw => ?_)
      have e46 : Fr.tmps[46]? = some (.string (tx (layV p q r))) := hEA.dst 19 _ 46 rfl rfl; have e49 : Fr.tmps[49]? = some (.string (tx (layV p q r))) := hEA.dst 22 _ 49 rfl rfl; simp [execOp, e46, e49, go_sem]
    · refine ob_val (want_is hEA (g := 16) (x := true) (b := true) rfl rfl rfl rfl) (by kernel_rfl) (fun ph w' hp hpm hw => ?_)
      have e3 : Fr.tmps[3]? = some (.pointer (some ⟨w.heap.size + 1, 0, none⟩)) := at_out hEA (d := 3) (by kernel_rfl); simp [execOp, e3, go_sem]
    · refine ob_val (want_is hEA (g := 16) (x := true) (b := true) rfl rfl rfl rfl) (by kernel_rfl) (fun ph w' hp hpm hw => ?_)
      have hc0 := (hw.cell (p := ⟨w.heap.size + 1, 0, none⟩) bv.lt).trans (bv.c 0 _ rfl)
      have hc1 := (hw.cell (p := ⟨w.heap.size + 1, 1, none⟩) bv.lt).trans (bv.c 1 _ rfl)
      have hc2 := (hw.cell (p := ⟨w.heap.size + 1, 2, none⟩) bv.lt).trans (bv.c 2 _ rfl)
      have e51 : Fr.tmps[51]? = some (.pointer (some ⟨w.heap.size + 1, 0, none⟩)) := hEA.dst 24 _ 51 rfl rfl; simp [execOp, e51, hc0, hc1, hc2, go_sem]
    · refine ob_val (want_is hEA (g := 16) (x := true) (b := true) rfl rfl rfl rfl) (by kernel_rfl) (fun ph w' hp hpm hw => ?_)
      have e3 : Fr.tmps[3]? = some (.pointer (some ⟨w.heap.size + 1, 0, none⟩)) := at_out hEA (d := 3) (by kernel_rfl); simp [execOp, e3, go_sem]
    · refine ob_val (want_is hEA (g := 16) (x := true) (b := true) rfl rfl rfl rfl) (by kernel_rfl) (fun ph w' hp hpm hw => ?_)
      have hc0 := (hw.cell (p := ⟨w.heap.size + 1, 3, none⟩) bv.lt).trans (bv.c 3 _ rfl)
      have hc1 := (hw.cell (p := ⟨w.heap.size + 1, 4, none⟩) bv.lt).trans (bv.c 4 _ rfl)
      have hc2 := (hw.cell (p := ⟨w.heap.size + 1, 5, none⟩) bv.lt).trans (bv.c 5 _ rfl)
      have e53 : Fr.tmps[53]? = some (.pointer (some ⟨w.heap.size + 1, 3, none⟩)) := hEA.dst 26 _ 53 rfl rfl; simp [execOp, e53, hc0, hc1, hc2, go_sem]
    · refine ob_val (want_is hEA (g := 16) (x := true) (b := true) rfl rfl rfl rfl) (by kernel_rfl) (fun ph w' hp hpm hw => ?_)
      have e52 : Fr.tmps[52]? = some (.agg #[.int .i64 p, .int .i64 q, .int .i64 r]) := hEA.dst 25 _ 52 rfl rfl; have e54 : Fr.tmps[54]? = some (.agg #[.int .i64 p, .int .i64 q, .int .i64 r]) := hEA.dst 27 _ 54 rfl rfl; simp [execOp, e52, e54, go_sem]
    · refine ob_val (want_is hEA (g := 16) (x := true) (b := true) rfl rfl rfl rfl) (by kernel_rfl) (fun ph w' hp hpm hw => ?_)
      have e50 : Fr.tmps[50]? = some (.bool true) := hEA.dst 23 _ 50 rfl rfl; have e55 : Fr.tmps[55]? = some (.bool true) := hEA.dst 28 _ 55 rfl rfl; simp [execOp, e50, e55, go_sem]
    · refine ob_val (want_none rfl) (by kernel_rfl) (fun ph w' hp hpm hw => ?_)
      have e43 : Fr.tmps[43]? = some (.bool true) := hEA.dst 16 _ 43 rfl rfl; have e56 : Fr.tmps[56]? = some (.bool true) := hEA.dst 29 _ 56 rfl rfl; simp [execOp, e43, e56, go_sem]
    · exact ob_move _ rfl (want_none rfl) (by kernel_rfl) (eval_dst hEA (j := 30) rfl rfl)
    · refine ob_val (want_is hEA (g := 31) (x := true) (b := true) rfl rfl rfl rfl) (by kernel_rfl) (fun ph w' hp hpm hw => ?_)
      have e2 : Fr.tmps[2]? = some (.pointer (some ⟨w.heap.size, 0, none⟩)) := at_out hEA (d := 2) (by kernel_rfl); simp [execOp, e2, go_sem]
    · refine ob_val (want_is hEA (g := 31) (x := true) (b := true) rfl rfl rfl rfl) (by kernel_rfl) (fun ph w' hp hpm hw => ?_)
      have hc0 := (hw.cell (p := ⟨w.heap.size, 0, none⟩) bm.lt).trans (bm.c 0 _ rfl)
      have hc1 := (hw.cell (p := ⟨w.heap.size, 1, none⟩) bm.lt).trans (bm.c 1 _ rfl)
      have e59 : Fr.tmps[59]? = some (.pointer (some ⟨w.heap.size, 0, none⟩)) := hEA.dst 32 _ 59 rfl rfl; simp [execOp, e59, hc0, hc1, go_sem]
    · refine ob_call (q := 5) (f := 19) (args := #[.agg #[.int .i64 a, .int .i64 b]]) (want_is hEA (g := 31) (x := true) (b := true) rfl rfl rfl rfl) (by kernel_rfl) (fun w' => by have e60 : Fr.tmps[60]? = some (.agg #[.int .i64 a, .int .i64 b]) := hEA.dst 33 _ 60 rfl rfl; simp [e60, go_sem]) ?_
      intro w' hw
      refine (Calls.mono (R := fun E W' => E = .returned (.string (tx (layM a b))) ∧ Below w'.heap.size w' W') (print_any a b w') ?_)
      rintro e w2 ⟨rfl, hb⟩
      exact ⟨rfl, hw.trans (hb.mono hw.size)⟩
    · refine ob_val (want_is hEA (g := 31) (x := true) (b := true) rfl rfl rfl rfl) (by kernel_rfl) (fun ph w' hp hpm hw => ?_)
      have e61 : Fr.tmps[61]? = some (.string (tx (layM a b))) := hEA.dst 34 _ 61 rfl rfl; simp [e61, tx_size, layM_length, go_sem]
    · refine ob_val (want_is hEA (g := 31) (x := true) (b := true) rfl rfl rfl rfl) (by kernel_rfl) (fun ph w' hp hpm hw => ?_)
      have e62 : Fr.tmps[62]? = some (.int .i64 8) := hEA.dst 35 _ 62 rfl rfl; simp [execOp, e62, go_sem]
    · refine ob_val (want_none rfl) (by kernel_rfl) (fun ph w' hp hpm hw => ?_)
      have e58 : Fr.tmps[58]? = some (.bool true) := hEA.dst 31 _ 58 rfl rfl; have e63 : Fr.tmps[63]? = some (.bool true) := hEA.dst 36 _ 63 rfl rfl; simp [execOp, e58, e63, go_sem]
    · exact ob_move _ rfl (want_none rfl) (by kernel_rfl) (eval_dst hEA (j := 37) rfl rfl)
    · refine ob_val (want_is hEA (g := 38) (x := true) (b := true) rfl rfl rfl rfl) (by kernel_rfl) (fun ph w' hp hpm hw => ?_)
      have e3 : Fr.tmps[3]? = some (.pointer (some ⟨w.heap.size + 1, 0, none⟩)) := at_out hEA (d := 3) (by kernel_rfl); simp [execOp, e3, go_sem]
    · refine ob_val (want_is hEA (g := 38) (x := true) (b := true) rfl rfl rfl rfl) (by kernel_rfl) (fun ph w' hp hpm hw => ?_)
      have hc0 := (hw.cell (p := ⟨w.heap.size + 1, 0, none⟩) bv.lt).trans (bv.c 0 _ rfl)
      have hc1 := (hw.cell (p := ⟨w.heap.size + 1, 1, none⟩) bv.lt).trans (bv.c 1 _ rfl)
      have hc2 := (hw.cell (p := ⟨w.heap.size + 1, 2, none⟩) bv.lt).trans (bv.c 2 _ rfl)
      have e66 : Fr.tmps[66]? = some (.pointer (some ⟨w.heap.size + 1, 0, none⟩)) := hEA.dst 39 _ 66 rfl rfl; simp [execOp, e66, hc0, hc1, hc2, go_sem]
    · refine ob_call (q := 6) (f := 21) (args := #[.agg #[.int .i64 p, .int .i64 q, .int .i64 r]]) (want_is hEA (g := 38) (x := true) (b := true) rfl rfl rfl rfl) (by kernel_rfl) (fun w' => by have e67 : Fr.tmps[67]? = some (.agg #[.int .i64 p, .int .i64 q, .int .i64 r]) := hEA.dst 40 _ 67 rfl rfl; simp [e67, go_sem]) ?_
      intro w' hw
      refine (Calls.mono (R := fun E W' => E = .returned (.string (tx (layV p q r))) ∧ Below w'.heap.size w' W') (printId_any p q r w') ?_)
      rintro e w2 ⟨rfl, hb⟩
      exact ⟨rfl, hw.trans (hb.mono hw.size)⟩
    · refine ob_val (want_is hEA (g := 38) (x := true) (b := true) rfl rfl rfl rfl) (by kernel_rfl) (fun ph w' hp hpm hw => ?_)
      have e68 : Fr.tmps[68]? = some (.string (tx (layV p q r))) := hEA.dst 41 _ 68 rfl rfl; simp [e68, tx_size, layV_length, go_sem]
    · refine ob_val (want_is hEA (g := 38) (x := true) (b := true) rfl rfl rfl rfl) (by kernel_rfl) (fun ph w' hp hpm hw => ?_)
      have e69 : Fr.tmps[69]? = some (.int .i64 12) := hEA.dst 42 _ 69 rfl rfl; simp [execOp, e69, go_sem]
    · refine ob_val (want_none rfl) (by kernel_rfl) (fun ph w' hp hpm hw => ?_)
      have e65 : Fr.tmps[65]? = some (.bool true) := hEA.dst 38 _ 65 rfl rfl; have e70 : Fr.tmps[70]? = some (.bool true) := hEA.dst 43 _ 70 rfl rfl; simp [execOp, e65, e70, go_sem]
    · refine ob_val (want_none rfl) (by kernel_rfl) (fun ph w' hp hpm hw => ?_)
      have e71 : Fr.tmps[71]? = some (.bool true) := hEA.dst 44 _ 71 rfl rfl; simp [execOp, e71, go_sem]
  · intro w' hw
    simp only [laid, Act.put, List.setIfInBounds_toArray, List.set_cons_succ, List.set_cons_zero, List.getD_cons_succ, List.getD_cons_zero, Nat.zero_add, Nat.reduceAdd]
    go_wp2_with fail
    go_ret
    exact ⟨rfl, B.trans (hw.mono B.size)⟩

set_option maxRecDepth 100000 in
set_option maxHeartbeats 8000000 in
theorem memberApart_us (a b c d p q r : Int) (w : World) (ok0 : okM a b = true) (ok1 : okM c d = true) (ok2 : okV p q r = true) (ok3 : okV p q r = true) (hE : a = c → ¬ b = d) (hS : ((tx (layM a b)).toList == (tx (layM c d)).toList) = false) :
    Calls Try.prog 7 #[.agg #[.int .i64 a, .int .i64 b, .int .i64 c, .int .i64 d], .agg #[.int .i64 p, .int .i64 q, .int .i64 r, .int .i64 p, .int .i64 q, .int .i64 r]] w fun e w' => e = .returned (.bool true) ∧ Below w.heap.size w w' := by
  go_enter Try.func7, Try.ntmps7
  go_wp2_with fail
  obtain ⟨W0, hW0, bm, bv, B⟩ := new2 w [.int .i64 a, .int .i64 b, .int .i64 c, .int .i64 d] [.int .i64 p, .int .i64 q, .int .i64 r, .int .i64 p, .int .i64 q, .int .i64 r] 47 48
  rw [hW0]
  clear hW0
  refine (Calls.mono (R := fun E W' => E = .returned (.bool true) ∧ Below W0.heap.size W0 W') (by have := mright_any a b W0; rwa [ok0] at this) ?_)
  rintro e W1 ⟨rfl, hb⟩
  replace bm := bm.next hb
  replace bv := bv.next hb
  replace B := B.trans (hb.mono B.size)
  clear hb
  have x0 := bm.c 0 _ rfl
  have x1 := bm.c 1 _ rfl
  have x2 := bm.c 2 _ rfl
  have x3 := bm.c 3 _ rfl
  have y0 := bv.c 0 _ rfl
  have y1 := bv.c 1 _ rfl
  have y2 := bv.c 2 _ rfl
  have y3 := bv.c 3 _ rfl
  have y4 := bv.c 4 _ rfl
  have y5 := bv.c 5 _ rfl
  go_wp2_with fail
  clear x0 x1 x2 x3 y0 y1 y2 y3 y4 y5
  refine (Calls.mono (R := fun E W' => E = .returned (.bool true) ∧ Below W1.heap.size W1 W') (by have := mright_any c d W1; rwa [ok1] at this) ?_)
  rintro e W2 ⟨rfl, hb⟩
  replace bm := bm.next hb
  replace bv := bv.next hb
  replace B := B.trans (hb.mono B.size)
  clear hb
  have x0 := bm.c 0 _ rfl
  have x1 := bm.c 1 _ rfl
  have x2 := bm.c 2 _ rfl
  have x3 := bm.c 3 _ rfl
  have y0 := bv.c 0 _ rfl
  have y1 := bv.c 1 _ rfl
  have y2 := bv.c 2 _ rfl
  have y3 := bv.c 3 _ rfl
  have y4 := bv.c 4 _ rfl
  have y5 := bv.c 5 _ rfl
  go_wp2_with fail
  clear x0 x1 x2 x3 y0 y1 y2 y3 y4 y5
  refine (Calls.mono (R := fun E W' => E = .returned (.bool true) ∧ Below W2.heap.size W2 W') (by have := id_any p q r W2; rwa [ok2] at this) ?_)
  rintro e W3 ⟨rfl, hb⟩
  replace bm := bm.next hb
  replace bv := bv.next hb
  replace B := B.trans (hb.mono B.size)
  clear hb
  have x0 := bm.c 0 _ rfl
  have x1 := bm.c 1 _ rfl
  have x2 := bm.c 2 _ rfl
  have x3 := bm.c 3 _ rfl
  have y0 := bv.c 0 _ rfl
  have y1 := bv.c 1 _ rfl
  have y2 := bv.c 2 _ rfl
  have y3 := bv.c 3 _ rfl
  have y4 := bv.c 4 _ rfl
  have y5 := bv.c 5 _ rfl
  go_wp2_with fail
  clear x0 x1 x2 x3 y0 y1 y2 y3 y4 y5
  refine (Calls.mono (R := fun E W' => E = .returned (.bool true) ∧ Below W3.heap.size W3 W') (by have := id_any p q r W3; rwa [ok3] at this) ?_)
  rintro e W4 ⟨rfl, hb⟩
  replace bm := bm.next hb
  replace bv := bv.next hb
  replace B := B.trans (hb.mono B.size)
  clear hb
  go_wp2_with fail
  refine wp_region_plan (fun i => ([.bool true, .bool true, .pointer (some ⟨w.heap.size, 0, none⟩), .agg #[.int .i64 a, .int .i64 b], .string (tx (layM a b)), .pointer (some ⟨w.heap.size, 2, none⟩), .agg #[.int .i64 c, .int .i64 d], .string (tx (layM c d)), .bool false, .pointer (some ⟨w.heap.size, 0, none⟩), .agg #[.int .i64 a, .int .i64 b], .pointer (some ⟨w.heap.size, 2, none⟩), .agg #[.int .i64 c, .int .i64 d], .bool false, .bool true, .bool true, .bool true, .pointer (some ⟨w.heap.size + 1, 0, none⟩), .agg #[.int .i64 p, .int .i64 q, .int .i64 r], .string (tx (layV p q r)), .pointer (some ⟨w.heap.size + 1, 3, none⟩), .agg #[.int .i64 p, .int .i64 q, .int .i64 r], .string (tx (layV p q r)), .bool true, .pointer (some ⟨w.heap.size + 1, 0, none⟩), .agg #[.int .i64 p, .int .i64 q, .int .i64 r], .pointer (some ⟨w.heap.size + 1, 3, none⟩), .agg #[.int .i64 p, .int .i64 q, .int .i64 r], .bool true, .bool true, .bool true, .bool true, .pointer (some ⟨w.heap.size, 0, none⟩), .agg #[.int .i64 a, .int .i64 b], .string (tx (layM a b)), .int .i64 8, .bool true, .bool true, .bool true, .pointer (some ⟨w.heap.size + 1, 0, none⟩), .agg #[.int .i64 p, .int .i64 q, .int .i64 r], .string (tx (layV p q r)), .int .i64 12, .bool true, .bool true, .bool true] : List Value).getD i undef) [0, 4, 7, 19, 22, 34, 41] [0, 1, 1, 1, 1, 1, 1, 2, 3, 1, 1, 1, 1, 1, 3, 3, 3, 3, 3, 3, 3, 3, 4, 5, 3, 3, 3, 3, 3, 5, 5, 5, 5, 5, 5, 6, 6, 6, 6, 6, 6, 6, 7, 7, 7, 7] (fun _ w' => Below W4.heap.size W4 w') (by kernel_rfl) (by kernel_rfl) (⟨rfl, rfl, rfl, Nat.le_refl _, fun _ _ => rfl⟩) ?_ ?_
  · refine Obs_of_ends (by kernel_rfl) ?_
    intro Fr hEA
    refine ⟨?_, ?_, ?_, ?_, ?_, ?_, ?_, ?_, ?_, ?_, ?_, ?_, ?_, ?_, ?_, ?_, ?_, ?_, ?_, ?_, ?_, ?_, ?_, ?_, ?_, ?_, ?_, ?_, ?_, ?_, ?_, ?_, ?_, ?_, ?_, ?_, ?_, ?_, ?_, ?_, ?_, ?_, ?_, ?_, ?_, ?_, trivial⟩
    · refine ob_call (q := 0) (f := 8) (args := #[]) (want_none rfl) (by kernel_rfl) (fun w' => by simp [go_sem]) ?_
      intro w' hw
      refine (Calls.mono (R := fun E W' => E = .returned (.bool true) ∧ Below w'.heap.size w' W') (awake8_any w') ?_)
      rintro e w2 ⟨rfl, hb⟩
      exact ⟨rfl, hw.trans (hb.mono hw.size)⟩
    · exact ob_move _ rfl (want_none rfl) (by kernel_rfl) (eval_dst hEA (j := 0) rfl rfl)
    · refine ob_val (want_is hEA (g := 1) (x := true) (b := true) rfl rfl rfl rfl) (by kernel_rfl) (fun ph w' hp hpm hw => ?_)
      have e2 : Fr.tmps[2]? = some (.pointer (some ⟨w.heap.size, 0, none⟩)) := at_out hEA (d := 2) (by kernel_rfl); simp [execOp, e2, go_sem]
    · refine ob_val (want_is hEA (g := 1) (x := true) (b := true) rfl rfl rfl rfl) (by kernel_rfl) (fun ph w' hp hpm hw => ?_)
      have hc0 := (hw.cell (p := ⟨w.heap.size, 0, none⟩) bm.lt).trans (bm.c 0 _ rfl)
      have hc1 := (hw.cell (p := ⟨w.heap.size, 1, none⟩) bm.lt).trans (bm.c 1 _ rfl)
      have e29 : Fr.tmps[29]? = some (.pointer (some ⟨w.heap.size, 0, none⟩)) := hEA.dst 2 _ 29 rfl rfl; simp [execOp, e29, hc0, hc1, go_sem]
    · refine ob_call (q := 1) (f := 19) (args := #[.agg #[.int .i64 a, .int .i64 b]]) (want_is hEA (g := 1) (x := true) (b := true) rfl rfl rfl rfl) (by kernel_rfl) (fun w' => by have e30 : Fr.tmps[30]? = some (.agg #[.int .i64 a, .int .i64 b]) := hEA.dst 3 _ 30 rfl rfl; simp [e30, go_sem]) ?_
      intro w' hw
      refine (Calls.mono (R := fun E W' => E = .returned (.string (tx (layM a b))) ∧ Below w'.heap.size w' W') (print_any a b w') ?_)
      rintro e w2 ⟨rfl, hb⟩
      exact ⟨rfl, hw.trans (hb.mono hw.size)⟩
    · refine ob_val (want_is hEA (g := 1) (x := true) (b := true) rfl rfl rfl rfl) (by kernel_rfl) (fun ph w' hp hpm hw => ?_)
      have e2 : Fr.tmps[2]? = some (.pointer (some ⟨w.heap.size, 0, none⟩)) := at_out hEA (d := 2) (by kernel_rfl); simp [execOp, e2, go_sem]
    · refine ob_val (want_is hEA (g := 1) (x := true) (b := true) rfl rfl rfl rfl) (by kernel_rfl) (fun ph w' hp hpm hw => ?_)
      have hc0 := (hw.cell (p := ⟨w.heap.size, 2, none⟩) bm.lt).trans (bm.c 2 _ rfl)
      have hc1 := (hw.cell (p := ⟨w.heap.size, 3, none⟩) bm.lt).trans (bm.c 3 _ rfl)
      have e32 : Fr.tmps[32]? = some (.pointer (some ⟨w.heap.size, 2, none⟩)) := hEA.dst 5 _ 32 rfl rfl; simp [execOp, e32, hc0, hc1, go_sem]
    · refine ob_call (q := 2) (f := 19) (args := #[.agg #[.int .i64 c, .int .i64 d]]) (want_is hEA (g := 1) (x := true) (b := true) rfl rfl rfl rfl) (by kernel_rfl) (fun w' => by have e33 : Fr.tmps[33]? = some (.agg #[.int .i64 c, .int .i64 d]) := hEA.dst 6 _ 33 rfl rfl; simp [e33, go_sem]) ?_
      intro w' hw
      refine (Calls.mono (R := fun E W' => E = .returned (.string (tx (layM c d))) ∧ Below w'.heap.size w' W') (print_any c d w') ?_)
      rintro e w2 ⟨rfl, hb⟩
      exact ⟨rfl, hw.trans (hb.mono hw.size)⟩
    · refine ob_val (want_is hEA (g := 1) (x := true) (b := true) rfl rfl rfl rfl) (by kernel_rfl) (fun ph w' hp hpm hw => ?_)
      have e31 : Fr.tmps[31]? = some (.string (tx (layM a b))) := hEA.dst 4 _ 31 rfl rfl; have e34 : Fr.tmps[34]? = some (.string (tx (layM c d))) := hEA.dst 7 _ 34 rfl rfl; simp [execOp, e31, e34, hS, go_sem]
    · refine ob_val (want_is hEA (g := 1) (x := true) (b := true) rfl rfl rfl rfl) (by kernel_rfl) (fun ph w' hp hpm hw => ?_)
      have e2 : Fr.tmps[2]? = some (.pointer (some ⟨w.heap.size, 0, none⟩)) := at_out hEA (d := 2) (by kernel_rfl); simp [execOp, e2, go_sem]
    · refine ob_val (want_is hEA (g := 1) (x := true) (b := true) rfl rfl rfl rfl) (by kernel_rfl) (fun ph w' hp hpm hw => ?_)
      have hc0 := (hw.cell (p := ⟨w.heap.size, 0, none⟩) bm.lt).trans (bm.c 0 _ rfl)
      have hc1 := (hw.cell (p := ⟨w.heap.size, 1, none⟩) bm.lt).trans (bm.c 1 _ rfl)
      have e36 : Fr.tmps[36]? = some (.pointer (some ⟨w.heap.size, 0, none⟩)) := hEA.dst 9 _ 36 rfl rfl; simp [execOp, e36, hc0, hc1, go_sem]
    · refine ob_val (want_is hEA (g := 1) (x := true) (b := true) rfl rfl rfl rfl) (by kernel_rfl) (fun ph w' hp hpm hw => ?_)
      have e2 : Fr.tmps[2]? = some (.pointer (some ⟨w.heap.size, 0, none⟩)) := at_out hEA (d := 2) (by kernel_rfl); simp [execOp, e2, go_sem]
    · refine ob_val (want_is hEA (g := 1) (x := true) (b := true) rfl rfl rfl rfl) (by kernel_rfl) (fun ph w' hp hpm hw => ?_)
      have hc0 := (hw.cell (p := ⟨w.heap.size, 2, none⟩) bm.lt).trans (bm.c 2 _ rfl)
      have hc1 := (hw.cell (p := ⟨w.heap.size, 3, none⟩) bm.lt).trans (bm.c 3 _ rfl)
      have e38 : Fr.tmps[38]? = some (.pointer (some ⟨w.heap.size, 2, none⟩)) := hEA.dst 11 _ 38 rfl rfl; simp [execOp, e38, hc0, hc1, go_sem]
    · refine ob_val (want_is hEA (g := 1) (x := true) (b := true) rfl rfl rfl rfl) (by kernel_rfl) (fun ph w' hp hpm hw => ?_)
      have e37 : Fr.tmps[37]? = some (.agg #[.int .i64 a, .int .i64 b]) := hEA.dst 10 _ 37 rfl rfl; have e39 : Fr.tmps[39]? = some (.agg #[.int .i64 c, .int .i64 d]) := hEA.dst 12 _ 39 rfl rfl; simp [execOp, e37, e39, go_sem]; exact hE
    · refine ob_val (want_is hEA (g := 1) (x := true) (b := true) rfl rfl rfl rfl) (by kernel_rfl) (fun ph w' hp hpm hw => ?_)
      have e35 : Fr.tmps[35]? = some (.bool false) := hEA.dst 8 _ 35 rfl rfl; have e40 : Fr.tmps[40]? = some (.bool false) := hEA.dst 13 _ 40 rfl rfl; simp [execOp, e35, e40, go_sem]
    · refine ob_val (want_none rfl) (by kernel_rfl) (fun ph w' hp hpm hw => ?_)
      have e28 : Fr.tmps[28]? = some (.bool true) := hEA.dst 1 _ 28 rfl rfl; have e41 : Fr.tmps[41]? = some (.bool true) := hEA.dst 14 _ 41 rfl rfl; simp [execOp, e28, e41, go_sem]
    · exact ob_move _ rfl (want_none rfl) (by kernel_rfl) (eval_dst hEA (j := 15) rfl rfl)
    · refine ob_val (want_is hEA (g := 16) (x := true) (b := true) rfl rfl rfl rfl) (by kernel_rfl) (fun ph w' hp hpm hw => ?_)
      have e3 : Fr.tmps[3]? = some (.pointer (some ⟨w.heap.size + 1, 0, none⟩)) := at_out hEA (d := 3) (by kernel_rfl); simp [execOp, e3, go_sem]
    · refine ob_val (want_is hEA (g := 16) (x := true) (b := true) rfl rfl rfl rfl) (by kernel_rfl) (fun ph w' hp hpm hw => ?_)
      have hc0 := (hw.cell (p := ⟨w.heap.size + 1, 0, none⟩) bv.lt).trans (bv.c 0 _ rfl)
      have hc1 := (hw.cell (p := ⟨w.heap.size + 1, 1, none⟩) bv.lt).trans (bv.c 1 _ rfl)
      have hc2 := (hw.cell (p := ⟨w.heap.size + 1, 2, none⟩) bv.lt).trans (bv.c 2 _ rfl)
      have e44 : Fr.tmps[44]? = some (.pointer (some ⟨w.heap.size + 1, 0, none⟩)) := hEA.dst 17 _ 44 rfl rfl; simp [execOp, e44, hc0, hc1, hc2, go_sem]
    · refine ob_call (q := 3) (f := 21) (args := #[.agg #[.int .i64 p, .int .i64 q, .int .i64 r]]) (want_is hEA (g := 16) (x := true) (b := true) rfl rfl rfl rfl) (by kernel_rfl) (fun w' => by have e45 : Fr.tmps[45]? = some (.agg #[.int .i64 p, .int .i64 q, .int .i64 r]) := hEA.dst 18 _ 45 rfl rfl; simp [e45, go_sem]) ?_
      intro w' hw
      refine (Calls.mono (R := fun E W' => E = .returned (.string (tx (layV p q r))) ∧ Below w'.heap.size w' W') (printId_any p q r w') ?_)
      rintro e w2 ⟨rfl, hb⟩
      exact ⟨rfl, hw.trans (hb.mono hw.size)⟩
    · refine ob_val (want_is hEA (g := 16) (x := true) (b := true) rfl rfl rfl rfl) (by kernel_rfl) (fun ph w' hp hpm hw => ?_)
      have e3 : Fr.tmps[3]? = some (.pointer (some ⟨w.heap.size + 1, 0, none⟩)) := at_out hEA (d := 3) (by kernel_rfl); simp [execOp, e3, go_sem]
    · refine ob_val (want_is hEA (g := 16) (x := true) (b := true) rfl rfl rfl rfl) (by kernel_rfl) (fun ph w' hp hpm hw => ?_)
      have hc0 := (hw.cell (p := ⟨w.heap.size + 1, 3, none⟩) bv.lt).trans (bv.c 3 _ rfl)
      have hc1 := (hw.cell (p := ⟨w.heap.size + 1, 4, none⟩) bv.lt).trans (bv.c 4 _ rfl)
      have hc2 := (hw.cell (p := ⟨w.heap.size + 1, 5, none⟩) bv.lt).trans (bv.c 5 _ rfl)
      have e47 : Fr.tmps[47]? = some (.pointer (some ⟨w.heap.size + 1, 3, none⟩)) := hEA.dst 20 _ 47 rfl rfl; simp [execOp, e47, hc0, hc1, hc2, go_sem]
    · refine ob_call (q := 4) (f := 21) (args := #[.agg #[.int .i64 p, .int .i64 q, .int .i64 r]]) (want_is hEA (g := 16) (x := true) (b := true) rfl rfl rfl rfl) (by kernel_rfl) (fun w' => by have e48 : Fr.tmps[48]? = some (.agg #[.int .i64 p, .int .i64 q, .int .i64 r]) := hEA.dst 21 _ 48 rfl rfl; simp [e48, go_sem]) ?_
      intro w' hw
      refine (Calls.mono (R := fun E W' => E = .returned (.string (tx (layV p q r))) ∧ Below w'.heap.size w' W') (printId_any p q r w') ?_)
      rintro e w2 ⟨rfl, hb⟩
      exact ⟨rfl, hw.trans (hb.mono hw.size)⟩
    · refine ob_val (want_is hEA (g := 16) (x := true) (b := true) rfl rfl rfl rfl) (by kernel_rfl) (fun ph w' hp hpm hw => ?_)
      have e46 : Fr.tmps[46]? = some (.string (tx (layV p q r))) := hEA.dst 19 _ 46 rfl rfl; have e49 : Fr.tmps[49]? = some (.string (tx (layV p q r))) := hEA.dst 22 _ 49 rfl rfl; simp [execOp, e46, e49, go_sem]
    · refine ob_val (want_is hEA (g := 16) (x := true) (b := true) rfl rfl rfl rfl) (by kernel_rfl) (fun ph w' hp hpm hw => ?_)
      have e3 : Fr.tmps[3]? = some (.pointer (some ⟨w.heap.size + 1, 0, none⟩)) := at_out hEA (d := 3) (by kernel_rfl); simp [execOp, e3, go_sem]
    · refine ob_val (want_is hEA (g := 16) (x := true) (b := true) rfl rfl rfl rfl) (by kernel_rfl) (fun ph w' hp hpm hw => ?_)
      have hc0 := (hw.cell (p := ⟨w.heap.size + 1, 0, none⟩) bv.lt).trans (bv.c 0 _ rfl)
      have hc1 := (hw.cell (p := ⟨w.heap.size + 1, 1, none⟩) bv.lt).trans (bv.c 1 _ rfl)
      have hc2 := (hw.cell (p := ⟨w.heap.size + 1, 2, none⟩) bv.lt).trans (bv.c 2 _ rfl)
      have e51 : Fr.tmps[51]? = some (.pointer (some ⟨w.heap.size + 1, 0, none⟩)) := hEA.dst 24 _ 51 rfl rfl; simp [execOp, e51, hc0, hc1, hc2, go_sem]
    · refine ob_val (want_is hEA (g := 16) (x := true) (b := true) rfl rfl rfl rfl) (by kernel_rfl) (fun ph w' hp hpm hw => ?_)
      have e3 : Fr.tmps[3]? = some (.pointer (some ⟨w.heap.size + 1, 0, none⟩)) := at_out hEA (d := 3) (by kernel_rfl); simp [execOp, e3, go_sem]
    · refine ob_val (want_is hEA (g := 16) (x := true) (b := true) rfl rfl rfl rfl) (by kernel_rfl) (fun ph w' hp hpm hw => ?_)
      have hc0 := (hw.cell (p := ⟨w.heap.size + 1, 3, none⟩) bv.lt).trans (bv.c 3 _ rfl)
      have hc1 := (hw.cell (p := ⟨w.heap.size + 1, 4, none⟩) bv.lt).trans (bv.c 4 _ rfl)
      have hc2 := (hw.cell (p := ⟨w.heap.size + 1, 5, none⟩) bv.lt).trans (bv.c 5 _ rfl)
      have e53 : Fr.tmps[53]? = some (.pointer (some ⟨w.heap.size + 1, 3, none⟩)) := hEA.dst 26 _ 53 rfl rfl; simp [execOp, e53, hc0, hc1, hc2, go_sem]
    · refine ob_val (want_is hEA (g := 16) (x := true) (b := true) rfl rfl rfl rfl) (by kernel_rfl) (fun ph w' hp hpm hw => ?_)
      have e52 : Fr.tmps[52]? = some (.agg #[.int .i64 p, .int .i64 q, .int .i64 r]) := hEA.dst 25 _ 52 rfl rfl; have e54 : Fr.tmps[54]? = some (.agg #[.int .i64 p, .int .i64 q, .int .i64 r]) := hEA.dst 27 _ 54 rfl rfl; simp [execOp, e52, e54, go_sem]
    · refine ob_val (want_is hEA (g := 16) (x := true) (b := true) rfl rfl rfl rfl) (by kernel_rfl) (fun ph w' hp hpm hw => ?_)
      have e50 : Fr.tmps[50]? = some (.bool true) := hEA.dst 23 _ 50 rfl rfl; have e55 : Fr.tmps[55]? = some (.bool true) := hEA.dst 28 _ 55 rfl rfl; simp [execOp, e50, e55, go_sem]
    · refine ob_val (want_none rfl) (by kernel_rfl) (fun ph w' hp hpm hw => ?_)
      have e43 : Fr.tmps[43]? = some (.bool true) := hEA.dst 16 _ 43 rfl rfl; have e56 : Fr.tmps[56]? = some (.bool true) := hEA.dst 29 _ 56 rfl rfl; simp [execOp, e43, e56, go_sem]
    · exact ob_move _ rfl (want_none rfl) (by kernel_rfl) (eval_dst hEA (j := 30) rfl rfl)
    · refine ob_val (want_is hEA (g := 31) (x := true) (b := true) rfl rfl rfl rfl) (by kernel_rfl) (fun ph w' hp hpm hw => ?_)
      have e2 : Fr.tmps[2]? = some (.pointer (some ⟨w.heap.size, 0, none⟩)) := at_out hEA (d := 2) (by kernel_rfl); simp [execOp, e2, go_sem]
    · refine ob_val (want_is hEA (g := 31) (x := true) (b := true) rfl rfl rfl rfl) (by kernel_rfl) (fun ph w' hp hpm hw => ?_)
      have hc0 := (hw.cell (p := ⟨w.heap.size, 0, none⟩) bm.lt).trans (bm.c 0 _ rfl)
      have hc1 := (hw.cell (p := ⟨w.heap.size, 1, none⟩) bm.lt).trans (bm.c 1 _ rfl)
      have e59 : Fr.tmps[59]? = some (.pointer (some ⟨w.heap.size, 0, none⟩)) := hEA.dst 32 _ 59 rfl rfl; simp [execOp, e59, hc0, hc1, go_sem]
    · refine ob_call (q := 5) (f := 19) (args := #[.agg #[.int .i64 a, .int .i64 b]]) (want_is hEA (g := 31) (x := true) (b := true) rfl rfl rfl rfl) (by kernel_rfl) (fun w' => by have e60 : Fr.tmps[60]? = some (.agg #[.int .i64 a, .int .i64 b]) := hEA.dst 33 _ 60 rfl rfl; simp [e60, go_sem]) ?_
      intro w' hw
      refine (Calls.mono (R := fun E W' => E = .returned (.string (tx (layM a b))) ∧ Below w'.heap.size w' W') (print_any a b w') ?_)
      rintro e w2 ⟨rfl, hb⟩
      exact ⟨rfl, hw.trans (hb.mono hw.size)⟩
    · refine ob_val (want_is hEA (g := 31) (x := true) (b := true) rfl rfl rfl rfl) (by kernel_rfl) (fun ph w' hp hpm hw => ?_)
      have e61 : Fr.tmps[61]? = some (.string (tx (layM a b))) := hEA.dst 34 _ 61 rfl rfl; simp [e61, tx_size, layM_length, go_sem]
    · refine ob_val (want_is hEA (g := 31) (x := true) (b := true) rfl rfl rfl rfl) (by kernel_rfl) (fun ph w' hp hpm hw => ?_)
      have e62 : Fr.tmps[62]? = some (.int .i64 8) := hEA.dst 35 _ 62 rfl rfl; simp [execOp, e62, go_sem]
    · refine ob_val (want_none rfl) (by kernel_rfl) (fun ph w' hp hpm hw => ?_)
      have e58 : Fr.tmps[58]? = some (.bool true) := hEA.dst 31 _ 58 rfl rfl; have e63 : Fr.tmps[63]? = some (.bool true) := hEA.dst 36 _ 63 rfl rfl; simp [execOp, e58, e63, go_sem]
    · exact ob_move _ rfl (want_none rfl) (by kernel_rfl) (eval_dst hEA (j := 37) rfl rfl)
    · refine ob_val (want_is hEA (g := 38) (x := true) (b := true) rfl rfl rfl rfl) (by kernel_rfl) (fun ph w' hp hpm hw => ?_)
      have e3 : Fr.tmps[3]? = some (.pointer (some ⟨w.heap.size + 1, 0, none⟩)) := at_out hEA (d := 3) (by kernel_rfl); simp [execOp, e3, go_sem]
    · refine ob_val (want_is hEA (g := 38) (x := true) (b := true) rfl rfl rfl rfl) (by kernel_rfl) (fun ph w' hp hpm hw => ?_)
      have hc0 := (hw.cell (p := ⟨w.heap.size + 1, 0, none⟩) bv.lt).trans (bv.c 0 _ rfl)
      have hc1 := (hw.cell (p := ⟨w.heap.size + 1, 1, none⟩) bv.lt).trans (bv.c 1 _ rfl)
      have hc2 := (hw.cell (p := ⟨w.heap.size + 1, 2, none⟩) bv.lt).trans (bv.c 2 _ rfl)
      have e66 : Fr.tmps[66]? = some (.pointer (some ⟨w.heap.size + 1, 0, none⟩)) := hEA.dst 39 _ 66 rfl rfl; simp [execOp, e66, hc0, hc1, hc2, go_sem]
    · refine ob_call (q := 6) (f := 21) (args := #[.agg #[.int .i64 p, .int .i64 q, .int .i64 r]]) (want_is hEA (g := 38) (x := true) (b := true) rfl rfl rfl rfl) (by kernel_rfl) (fun w' => by have e67 : Fr.tmps[67]? = some (.agg #[.int .i64 p, .int .i64 q, .int .i64 r]) := hEA.dst 40 _ 67 rfl rfl; simp [e67, go_sem]) ?_
      intro w' hw
      refine (Calls.mono (R := fun E W' => E = .returned (.string (tx (layV p q r))) ∧ Below w'.heap.size w' W') (printId_any p q r w') ?_)
      rintro e w2 ⟨rfl, hb⟩
      exact ⟨rfl, hw.trans (hb.mono hw.size)⟩
    · refine ob_val (want_is hEA (g := 38) (x := true) (b := true) rfl rfl rfl rfl) (by kernel_rfl) (fun ph w' hp hpm hw => ?_)
      have e68 : Fr.tmps[68]? = some (.string (tx (layV p q r))) := hEA.dst 41 _ 68 rfl rfl; simp [e68, tx_size, layV_length, go_sem]
    · refine ob_val (want_is hEA (g := 38) (x := true) (b := true) rfl rfl rfl rfl) (by kernel_rfl) (fun ph w' hp hpm hw => ?_)
      have e69 : Fr.tmps[69]? = some (.int .i64 12) := hEA.dst 42 _ 69 rfl rfl; simp [execOp, e69, go_sem]
    · refine ob_val (want_none rfl) (by kernel_rfl) (fun ph w' hp hpm hw => ?_)
      have e65 : Fr.tmps[65]? = some (.bool true) := hEA.dst 38 _ 65 rfl rfl; have e70 : Fr.tmps[70]? = some (.bool true) := hEA.dst 43 _ 70 rfl rfl; simp [execOp, e65, e70, go_sem]
    · refine ob_val (want_none rfl) (by kernel_rfl) (fun ph w' hp hpm hw => ?_)
      have e71 : Fr.tmps[71]? = some (.bool true) := hEA.dst 44 _ 71 rfl rfl; simp [execOp, e71, go_sem]
  · intro w' hw
    simp only [laid, Act.put, List.setIfInBounds_toArray, List.set_cons_succ, List.set_cons_zero, List.getD_cons_succ, List.getD_cons_zero, Nat.zero_add, Nat.reduceAdd]
    go_wp2_with fail
    go_ret
    exact ⟨rfl, B.trans (hw.mono B.size)⟩

set_option maxRecDepth 100000 in
set_option maxHeartbeats 8000000 in
theorem memberApart_su (a b p q r x y z : Int) (w : World) (ok0 : okM a b = true) (ok1 : okM a b = true) (ok2 : okV p q r = true) (ok3 : okV x y z = true) (hF : p = x → q = y → ¬ r = z) (hT : ((tx (layV p q r)).toList == (tx (layV x y z)).toList) = false) :
    Calls Try.prog 7 #[.agg #[.int .i64 a, .int .i64 b, .int .i64 a, .int .i64 b], .agg #[.int .i64 p, .int .i64 q, .int .i64 r, .int .i64 x, .int .i64 y, .int .i64 z]] w fun e w' => e = .returned (.bool true) ∧ Below w.heap.size w w' := by
  go_enter Try.func7, Try.ntmps7
  go_wp2_with fail
  obtain ⟨W0, hW0, bm, bv, B⟩ := new2 w [.int .i64 a, .int .i64 b, .int .i64 a, .int .i64 b] [.int .i64 p, .int .i64 q, .int .i64 r, .int .i64 x, .int .i64 y, .int .i64 z] 47 48
  rw [hW0]
  clear hW0
  refine (Calls.mono (R := fun E W' => E = .returned (.bool true) ∧ Below W0.heap.size W0 W') (by have := mright_any a b W0; rwa [ok0] at this) ?_)
  rintro e W1 ⟨rfl, hb⟩
  replace bm := bm.next hb
  replace bv := bv.next hb
  replace B := B.trans (hb.mono B.size)
  clear hb
  have x0 := bm.c 0 _ rfl
  have x1 := bm.c 1 _ rfl
  have x2 := bm.c 2 _ rfl
  have x3 := bm.c 3 _ rfl
  have y0 := bv.c 0 _ rfl
  have y1 := bv.c 1 _ rfl
  have y2 := bv.c 2 _ rfl
  have y3 := bv.c 3 _ rfl
  have y4 := bv.c 4 _ rfl
  have y5 := bv.c 5 _ rfl
  go_wp2_with fail
  clear x0 x1 x2 x3 y0 y1 y2 y3 y4 y5
  refine (Calls.mono (R := fun E W' => E = .returned (.bool true) ∧ Below W1.heap.size W1 W') (by have := mright_any a b W1; rwa [ok1] at this) ?_)
  rintro e W2 ⟨rfl, hb⟩
  replace bm := bm.next hb
  replace bv := bv.next hb
  replace B := B.trans (hb.mono B.size)
  clear hb
  have x0 := bm.c 0 _ rfl
  have x1 := bm.c 1 _ rfl
  have x2 := bm.c 2 _ rfl
  have x3 := bm.c 3 _ rfl
  have y0 := bv.c 0 _ rfl
  have y1 := bv.c 1 _ rfl
  have y2 := bv.c 2 _ rfl
  have y3 := bv.c 3 _ rfl
  have y4 := bv.c 4 _ rfl
  have y5 := bv.c 5 _ rfl
  go_wp2_with fail
  clear x0 x1 x2 x3 y0 y1 y2 y3 y4 y5
  refine (Calls.mono (R := fun E W' => E = .returned (.bool true) ∧ Below W2.heap.size W2 W') (by have := id_any p q r W2; rwa [ok2] at this) ?_)
  rintro e W3 ⟨rfl, hb⟩
  replace bm := bm.next hb
  replace bv := bv.next hb
  replace B := B.trans (hb.mono B.size)
  clear hb
  have x0 := bm.c 0 _ rfl
  have x1 := bm.c 1 _ rfl
  have x2 := bm.c 2 _ rfl
  have x3 := bm.c 3 _ rfl
  have y0 := bv.c 0 _ rfl
  have y1 := bv.c 1 _ rfl
  have y2 := bv.c 2 _ rfl
  have y3 := bv.c 3 _ rfl
  have y4 := bv.c 4 _ rfl
  have y5 := bv.c 5 _ rfl
  go_wp2_with fail
  clear x0 x1 x2 x3 y0 y1 y2 y3 y4 y5
  refine (Calls.mono (R := fun E W' => E = .returned (.bool true) ∧ Below W3.heap.size W3 W') (by have := id_any x y z W3; rwa [ok3] at this) ?_)
  rintro e W4 ⟨rfl, hb⟩
  replace bm := bm.next hb
  replace bv := bv.next hb
  replace B := B.trans (hb.mono B.size)
  clear hb
  go_wp2_with fail
  refine wp_region_plan (fun i => ([.bool true, .bool true, .pointer (some ⟨w.heap.size, 0, none⟩), .agg #[.int .i64 a, .int .i64 b], .string (tx (layM a b)), .pointer (some ⟨w.heap.size, 2, none⟩), .agg #[.int .i64 a, .int .i64 b], .string (tx (layM a b)), .bool true, .pointer (some ⟨w.heap.size, 0, none⟩), .agg #[.int .i64 a, .int .i64 b], .pointer (some ⟨w.heap.size, 2, none⟩), .agg #[.int .i64 a, .int .i64 b], .bool true, .bool true, .bool true, .bool true, .pointer (some ⟨w.heap.size + 1, 0, none⟩), .agg #[.int .i64 p, .int .i64 q, .int .i64 r], .string (tx (layV p q r)), .pointer (some ⟨w.heap.size + 1, 3, none⟩), .agg #[.int .i64 x, .int .i64 y, .int .i64 z], .string (tx (layV x y z)), .bool false, .pointer (some ⟨w.heap.size + 1, 0, none⟩), .agg #[.int .i64 p, .int .i64 q, .int .i64 r], .pointer (some ⟨w.heap.size + 1, 3, none⟩), .agg #[.int .i64 x, .int .i64 y, .int .i64 z], .bool false, .bool true, .bool true, .bool true, .pointer (some ⟨w.heap.size, 0, none⟩), .agg #[.int .i64 a, .int .i64 b], .string (tx (layM a b)), .int .i64 8, .bool true, .bool true, .bool true, .pointer (some ⟨w.heap.size + 1, 0, none⟩), .agg #[.int .i64 p, .int .i64 q, .int .i64 r], .string (tx (layV p q r)), .int .i64 12, .bool true, .bool true, .bool true] : List Value).getD i undef) [0, 4, 7, 19, 22, 34, 41] [0, 1, 1, 1, 1, 1, 1, 2, 3, 1, 1, 1, 1, 1, 3, 3, 3, 3, 3, 3, 3, 3, 4, 5, 3, 3, 3, 3, 3, 5, 5, 5, 5, 5, 5, 6, 6, 6, 6, 6, 6, 6, 7, 7, 7, 7] (fun _ w' => Below W4.heap.size W4 w') (by kernel_rfl) (by kernel_rfl) (⟨rfl, rfl, rfl, Nat.le_refl _, fun _ _ => rfl⟩) ?_ ?_
  · refine Obs_of_ends (by kernel_rfl) ?_
    intro Fr hEA
    refine ⟨?_, ?_, ?_, ?_, ?_, ?_, ?_, ?_, ?_, ?_, ?_, ?_, ?_, ?_, ?_, ?_, ?_, ?_, ?_, ?_, ?_, ?_, ?_, ?_, ?_, ?_, ?_, ?_, ?_, ?_, ?_, ?_, ?_, ?_, ?_, ?_, ?_, ?_, ?_, ?_, ?_, ?_, ?_, ?_, ?_, ?_, trivial⟩
    · refine ob_call (q := 0) (f := 8) (args := #[]) (want_none rfl) (by kernel_rfl) (fun w' => by simp [go_sem]) ?_
      intro w' hw
      refine (Calls.mono (R := fun E W' => E = .returned (.bool true) ∧ Below w'.heap.size w' W') (awake8_any w') ?_)
      rintro e w2 ⟨rfl, hb⟩
      exact ⟨rfl, hw.trans (hb.mono hw.size)⟩
    · exact ob_move _ rfl (want_none rfl) (by kernel_rfl) (eval_dst hEA (j := 0) rfl rfl)
    · refine ob_val (want_is hEA (g := 1) (x := true) (b := true) rfl rfl rfl rfl) (by kernel_rfl) (fun ph w' hp hpm hw => ?_)
      have e2 : Fr.tmps[2]? = some (.pointer (some ⟨w.heap.size, 0, none⟩)) := at_out hEA (d := 2) (by kernel_rfl); simp [execOp, e2, go_sem]
    · refine ob_val (want_is hEA (g := 1) (x := true) (b := true) rfl rfl rfl rfl) (by kernel_rfl) (fun ph w' hp hpm hw => ?_)
      have hc0 := (hw.cell (p := ⟨w.heap.size, 0, none⟩) bm.lt).trans (bm.c 0 _ rfl)
      have hc1 := (hw.cell (p := ⟨w.heap.size, 1, none⟩) bm.lt).trans (bm.c 1 _ rfl)
      have e29 : Fr.tmps[29]? = some (.pointer (some ⟨w.heap.size, 0, none⟩)) := hEA.dst 2 _ 29 rfl rfl; simp [execOp, e29, hc0, hc1, go_sem]
    · refine ob_call (q := 1) (f := 19) (args := #[.agg #[.int .i64 a, .int .i64 b]]) (want_is hEA (g := 1) (x := true) (b := true) rfl rfl rfl rfl) (by kernel_rfl) (fun w' => by have e30 : Fr.tmps[30]? = some (.agg #[.int .i64 a, .int .i64 b]) := hEA.dst 3 _ 30 rfl rfl; simp [e30, go_sem]) ?_
      intro w' hw
      refine (Calls.mono (R := fun E W' => E = .returned (.string (tx (layM a b))) ∧ Below w'.heap.size w' W') (print_any a b w') ?_)
      rintro e w2 ⟨rfl, hb⟩
      exact ⟨rfl, hw.trans (hb.mono hw.size)⟩
    · refine ob_val (want_is hEA (g := 1) (x := true) (b := true) rfl rfl rfl rfl) (by kernel_rfl) (fun ph w' hp hpm hw => ?_)
      have e2 : Fr.tmps[2]? = some (.pointer (some ⟨w.heap.size, 0, none⟩)) := at_out hEA (d := 2) (by kernel_rfl); simp [execOp, e2, go_sem]
    · refine ob_val (want_is hEA (g := 1) (x := true) (b := true) rfl rfl rfl rfl) (by kernel_rfl) (fun ph w' hp hpm hw => ?_)
      have hc0 := (hw.cell (p := ⟨w.heap.size, 2, none⟩) bm.lt).trans (bm.c 2 _ rfl)
      have hc1 := (hw.cell (p := ⟨w.heap.size, 3, none⟩) bm.lt).trans (bm.c 3 _ rfl)
      have e32 : Fr.tmps[32]? = some (.pointer (some ⟨w.heap.size, 2, none⟩)) := hEA.dst 5 _ 32 rfl rfl; simp [execOp, e32, hc0, hc1, go_sem]
    · refine ob_call (q := 2) (f := 19) (args := #[.agg #[.int .i64 a, .int .i64 b]]) (want_is hEA (g := 1) (x := true) (b := true) rfl rfl rfl rfl) (by kernel_rfl) (fun w' => by have e33 : Fr.tmps[33]? = some (.agg #[.int .i64 a, .int .i64 b]) := hEA.dst 6 _ 33 rfl rfl; simp [e33, go_sem]) ?_
      intro w' hw
      refine (Calls.mono (R := fun E W' => E = .returned (.string (tx (layM a b))) ∧ Below w'.heap.size w' W') (print_any a b w') ?_)
      rintro e w2 ⟨rfl, hb⟩
      exact ⟨rfl, hw.trans (hb.mono hw.size)⟩
    · refine ob_val (want_is hEA (g := 1) (x := true) (b := true) rfl rfl rfl rfl) (by kernel_rfl) (fun ph w' hp hpm hw => ?_)
      have e31 : Fr.tmps[31]? = some (.string (tx (layM a b))) := hEA.dst 4 _ 31 rfl rfl; have e34 : Fr.tmps[34]? = some (.string (tx (layM a b))) := hEA.dst 7 _ 34 rfl rfl; simp [execOp, e31, e34, go_sem]
    · refine ob_val (want_is hEA (g := 1) (x := true) (b := true) rfl rfl rfl rfl) (by kernel_rfl) (fun ph w' hp hpm hw => ?_)
      have e2 : Fr.tmps[2]? = some (.pointer (some ⟨w.heap.size, 0, none⟩)) := at_out hEA (d := 2) (by kernel_rfl); simp [execOp, e2, go_sem]
    · refine ob_val (want_is hEA (g := 1) (x := true) (b := true) rfl rfl rfl rfl) (by kernel_rfl) (fun ph w' hp hpm hw => ?_)
      have hc0 := (hw.cell (p := ⟨w.heap.size, 0, none⟩) bm.lt).trans (bm.c 0 _ rfl)
      have hc1 := (hw.cell (p := ⟨w.heap.size, 1, none⟩) bm.lt).trans (bm.c 1 _ rfl)
      have e36 : Fr.tmps[36]? = some (.pointer (some ⟨w.heap.size, 0, none⟩)) := hEA.dst 9 _ 36 rfl rfl; simp [execOp, e36, hc0, hc1, go_sem]
    · refine ob_val (want_is hEA (g := 1) (x := true) (b := true) rfl rfl rfl rfl) (by kernel_rfl) (fun ph w' hp hpm hw => ?_)
      have e2 : Fr.tmps[2]? = some (.pointer (some ⟨w.heap.size, 0, none⟩)) := at_out hEA (d := 2) (by kernel_rfl); simp [execOp, e2, go_sem]
    · refine ob_val (want_is hEA (g := 1) (x := true) (b := true) rfl rfl rfl rfl) (by kernel_rfl) (fun ph w' hp hpm hw => ?_)
      have hc0 := (hw.cell (p := ⟨w.heap.size, 2, none⟩) bm.lt).trans (bm.c 2 _ rfl)
      have hc1 := (hw.cell (p := ⟨w.heap.size, 3, none⟩) bm.lt).trans (bm.c 3 _ rfl)
      have e38 : Fr.tmps[38]? = some (.pointer (some ⟨w.heap.size, 2, none⟩)) := hEA.dst 11 _ 38 rfl rfl; simp [execOp, e38, hc0, hc1, go_sem]
    · refine ob_val (want_is hEA (g := 1) (x := true) (b := true) rfl rfl rfl rfl) (by kernel_rfl) (fun ph w' hp hpm hw => ?_)
      have e37 : Fr.tmps[37]? = some (.agg #[.int .i64 a, .int .i64 b]) := hEA.dst 10 _ 37 rfl rfl; have e39 : Fr.tmps[39]? = some (.agg #[.int .i64 a, .int .i64 b]) := hEA.dst 12 _ 39 rfl rfl; simp [execOp, e37, e39, go_sem]
    · refine ob_val (want_is hEA (g := 1) (x := true) (b := true) rfl rfl rfl rfl) (by kernel_rfl) (fun ph w' hp hpm hw => ?_)
      have e35 : Fr.tmps[35]? = some (.bool true) := hEA.dst 8 _ 35 rfl rfl; have e40 : Fr.tmps[40]? = some (.bool true) := hEA.dst 13 _ 40 rfl rfl; simp [execOp, e35, e40, go_sem]
    · refine ob_val (want_none rfl) (by kernel_rfl) (fun ph w' hp hpm hw => ?_)
      have e28 : Fr.tmps[28]? = some (.bool true) := hEA.dst 1 _ 28 rfl rfl; have e41 : Fr.tmps[41]? = some (.bool true) := hEA.dst 14 _ 41 rfl rfl; simp [execOp, e28, e41, go_sem]
    · exact ob_move _ rfl (want_none rfl) (by kernel_rfl) (eval_dst hEA (j := 15) rfl rfl)
    · refine ob_val (want_is hEA (g := 16) (x := true) (b := true) rfl rfl rfl rfl) (by kernel_rfl) (fun ph w' hp hpm hw => ?_)
      have e3 : Fr.tmps[3]? = some (.pointer (some ⟨w.heap.size + 1, 0, none⟩)) := at_out hEA (d := 3) (by kernel_rfl); simp [execOp, e3, go_sem]
    · refine ob_val (want_is hEA (g := 16) (x := true) (b := true) rfl rfl rfl rfl) (by kernel_rfl) (fun ph w' hp hpm hw => ?_)
      have hc0 := (hw.cell (p := ⟨w.heap.size + 1, 0, none⟩) bv.lt).trans (bv.c 0 _ rfl)
      have hc1 := (hw.cell (p := ⟨w.heap.size + 1, 1, none⟩) bv.lt).trans (bv.c 1 _ rfl)
      have hc2 := (hw.cell (p := ⟨w.heap.size + 1, 2, none⟩) bv.lt).trans (bv.c 2 _ rfl)
      have e44 : Fr.tmps[44]? = some (.pointer (some ⟨w.heap.size + 1, 0, none⟩)) := hEA.dst 17 _ 44 rfl rfl; simp [execOp, e44, hc0, hc1, hc2, go_sem]
    · refine ob_call (q := 3) (f := 21) (args := #[.agg #[.int .i64 p, .int .i64 q, .int .i64 r]]) (want_is hEA (g := 16) (x := true) (b := true) rfl rfl rfl rfl) (by kernel_rfl) (fun w' => by have e45 : Fr.tmps[45]? = some (.agg #[.int .i64 p, .int .i64 q, .int .i64 r]) := hEA.dst 18 _ 45 rfl rfl; simp [e45, go_sem]) ?_
      intro w' hw
      refine (Calls.mono (R := fun E W' => E = .returned (.string (tx (layV p q r))) ∧ Below w'.heap.size w' W') (printId_any p q r w') ?_)
      rintro e w2 ⟨rfl, hb⟩
      exact ⟨rfl, hw.trans (hb.mono hw.size)⟩
    · refine ob_val (want_is hEA (g := 16) (x := true) (b := true) rfl rfl rfl rfl) (by kernel_rfl) (fun ph w' hp hpm hw => ?_)
      have e3 : Fr.tmps[3]? = some (.pointer (some ⟨w.heap.size + 1, 0, none⟩)) := at_out hEA (d := 3) (by kernel_rfl); simp [execOp, e3, go_sem]
    · refine ob_val (want_is hEA (g := 16) (x := true) (b := true) rfl rfl rfl rfl) (by kernel_rfl) (fun ph w' hp hpm hw => ?_)
      have hc0 := (hw.cell (p := ⟨w.heap.size + 1, 3, none⟩) bv.lt).trans (bv.c 3 _ rfl)
      have hc1 := (hw.cell (p := ⟨w.heap.size + 1, 4, none⟩) bv.lt).trans (bv.c 4 _ rfl)
      have hc2 := (hw.cell (p := ⟨w.heap.size + 1, 5, none⟩) bv.lt).trans (bv.c 5 _ rfl)
      have e47 : Fr.tmps[47]? = some (.pointer (some ⟨w.heap.size + 1, 3, none⟩)) := hEA.dst 20 _ 47 rfl rfl; simp [execOp, e47, hc0, hc1, hc2, go_sem]
    · refine ob_call (q := 4) (f := 21) (args := #[.agg #[.int .i64 x, .int .i64 y, .int .i64 z]]) (want_is hEA (g := 16) (x := true) (b := true) rfl rfl rfl rfl) (by kernel_rfl) (fun w' => by have e48 : Fr.tmps[48]? = some (.agg #[.int .i64 x, .int .i64 y, .int .i64 z]) := hEA.dst 21 _ 48 rfl rfl; simp [e48, go_sem]) ?_
      intro w' hw
      refine (Calls.mono (R := fun E W' => E = .returned (.string (tx (layV x y z))) ∧ Below w'.heap.size w' W') (printId_any x y z w') ?_)
      rintro e w2 ⟨rfl, hb⟩
      exact ⟨rfl, hw.trans (hb.mono hw.size)⟩
    · refine ob_val (want_is hEA (g := 16) (x := true) (b := true) rfl rfl rfl rfl) (by kernel_rfl) (fun ph w' hp hpm hw => ?_)
      have e46 : Fr.tmps[46]? = some (.string (tx (layV p q r))) := hEA.dst 19 _ 46 rfl rfl; have e49 : Fr.tmps[49]? = some (.string (tx (layV x y z))) := hEA.dst 22 _ 49 rfl rfl; simp [execOp, e46, e49, hT, go_sem]
    · refine ob_val (want_is hEA (g := 16) (x := true) (b := true) rfl rfl rfl rfl) (by kernel_rfl) (fun ph w' hp hpm hw => ?_)
      have e3 : Fr.tmps[3]? = some (.pointer (some ⟨w.heap.size + 1, 0, none⟩)) := at_out hEA (d := 3) (by kernel_rfl); simp [execOp, e3, go_sem]
    · refine ob_val (want_is hEA (g := 16) (x := true) (b := true) rfl rfl rfl rfl) (by kernel_rfl) (fun ph w' hp hpm hw => ?_)
      have hc0 := (hw.cell (p := ⟨w.heap.size + 1, 0, none⟩) bv.lt).trans (bv.c 0 _ rfl)
      have hc1 := (hw.cell (p := ⟨w.heap.size + 1, 1, none⟩) bv.lt).trans (bv.c 1 _ rfl)
      have hc2 := (hw.cell (p := ⟨w.heap.size + 1, 2, none⟩) bv.lt).trans (bv.c 2 _ rfl)
      have e51 : Fr.tmps[51]? = some (.pointer (some ⟨w.heap.size + 1, 0, none⟩)) := hEA.dst 24 _ 51 rfl rfl; simp [execOp, e51, hc0, hc1, hc2, go_sem]
    · refine ob_val (want_is hEA (g := 16) (x := true) (b := true) rfl rfl rfl rfl) (by kernel_rfl) (fun ph w' hp hpm hw => ?_)
      have e3 : Fr.tmps[3]? = some (.pointer (some ⟨w.heap.size + 1, 0, none⟩)) := at_out hEA (d := 3) (by kernel_rfl); simp [execOp, e3, go_sem]
    · refine ob_val (want_is hEA (g := 16) (x := true) (b := true) rfl rfl rfl rfl) (by kernel_rfl) (fun ph w' hp hpm hw => ?_)
      have hc0 := (hw.cell (p := ⟨w.heap.size + 1, 3, none⟩) bv.lt).trans (bv.c 3 _ rfl)
      have hc1 := (hw.cell (p := ⟨w.heap.size + 1, 4, none⟩) bv.lt).trans (bv.c 4 _ rfl)
      have hc2 := (hw.cell (p := ⟨w.heap.size + 1, 5, none⟩) bv.lt).trans (bv.c 5 _ rfl)
      have e53 : Fr.tmps[53]? = some (.pointer (some ⟨w.heap.size + 1, 3, none⟩)) := hEA.dst 26 _ 53 rfl rfl; simp [execOp, e53, hc0, hc1, hc2, go_sem]
    · refine ob_val (want_is hEA (g := 16) (x := true) (b := true) rfl rfl rfl rfl) (by kernel_rfl) (fun ph w' hp hpm hw => ?_)
      have e52 : Fr.tmps[52]? = some (.agg #[.int .i64 p, .int .i64 q, .int .i64 r]) := hEA.dst 25 _ 52 rfl rfl; have e54 : Fr.tmps[54]? = some (.agg #[.int .i64 x, .int .i64 y, .int .i64 z]) := hEA.dst 27 _ 54 rfl rfl; simp [execOp, e52, e54, go_sem]; exact hF
    · refine ob_val (want_is hEA (g := 16) (x := true) (b := true) rfl rfl rfl rfl) (by kernel_rfl) (fun ph w' hp hpm hw => ?_)
      have e50 : Fr.tmps[50]? = some (.bool false) := hEA.dst 23 _ 50 rfl rfl; have e55 : Fr.tmps[55]? = some (.bool false) := hEA.dst 28 _ 55 rfl rfl; simp [execOp, e50, e55, go_sem]
    · refine ob_val (want_none rfl) (by kernel_rfl) (fun ph w' hp hpm hw => ?_)
      have e43 : Fr.tmps[43]? = some (.bool true) := hEA.dst 16 _ 43 rfl rfl; have e56 : Fr.tmps[56]? = some (.bool true) := hEA.dst 29 _ 56 rfl rfl; simp [execOp, e43, e56, go_sem]
    · exact ob_move _ rfl (want_none rfl) (by kernel_rfl) (eval_dst hEA (j := 30) rfl rfl)
    · refine ob_val (want_is hEA (g := 31) (x := true) (b := true) rfl rfl rfl rfl) (by kernel_rfl) (fun ph w' hp hpm hw => ?_)
      have e2 : Fr.tmps[2]? = some (.pointer (some ⟨w.heap.size, 0, none⟩)) := at_out hEA (d := 2) (by kernel_rfl); simp [execOp, e2, go_sem]
    · refine ob_val (want_is hEA (g := 31) (x := true) (b := true) rfl rfl rfl rfl) (by kernel_rfl) (fun ph w' hp hpm hw => ?_)
      have hc0 := (hw.cell (p := ⟨w.heap.size, 0, none⟩) bm.lt).trans (bm.c 0 _ rfl)
      have hc1 := (hw.cell (p := ⟨w.heap.size, 1, none⟩) bm.lt).trans (bm.c 1 _ rfl)
      have e59 : Fr.tmps[59]? = some (.pointer (some ⟨w.heap.size, 0, none⟩)) := hEA.dst 32 _ 59 rfl rfl; simp [execOp, e59, hc0, hc1, go_sem]
    · refine ob_call (q := 5) (f := 19) (args := #[.agg #[.int .i64 a, .int .i64 b]]) (want_is hEA (g := 31) (x := true) (b := true) rfl rfl rfl rfl) (by kernel_rfl) (fun w' => by have e60 : Fr.tmps[60]? = some (.agg #[.int .i64 a, .int .i64 b]) := hEA.dst 33 _ 60 rfl rfl; simp [e60, go_sem]) ?_
      intro w' hw
      refine (Calls.mono (R := fun E W' => E = .returned (.string (tx (layM a b))) ∧ Below w'.heap.size w' W') (print_any a b w') ?_)
      rintro e w2 ⟨rfl, hb⟩
      exact ⟨rfl, hw.trans (hb.mono hw.size)⟩
    · refine ob_val (want_is hEA (g := 31) (x := true) (b := true) rfl rfl rfl rfl) (by kernel_rfl) (fun ph w' hp hpm hw => ?_)
      have e61 : Fr.tmps[61]? = some (.string (tx (layM a b))) := hEA.dst 34 _ 61 rfl rfl; simp [e61, tx_size, layM_length, go_sem]
    · refine ob_val (want_is hEA (g := 31) (x := true) (b := true) rfl rfl rfl rfl) (by kernel_rfl) (fun ph w' hp hpm hw => ?_)
      have e62 : Fr.tmps[62]? = some (.int .i64 8) := hEA.dst 35 _ 62 rfl rfl; simp [execOp, e62, go_sem]
    · refine ob_val (want_none rfl) (by kernel_rfl) (fun ph w' hp hpm hw => ?_)
      have e58 : Fr.tmps[58]? = some (.bool true) := hEA.dst 31 _ 58 rfl rfl; have e63 : Fr.tmps[63]? = some (.bool true) := hEA.dst 36 _ 63 rfl rfl; simp [execOp, e58, e63, go_sem]
    · exact ob_move _ rfl (want_none rfl) (by kernel_rfl) (eval_dst hEA (j := 37) rfl rfl)
    · refine ob_val (want_is hEA (g := 38) (x := true) (b := true) rfl rfl rfl rfl) (by kernel_rfl) (fun ph w' hp hpm hw => ?_)
      have e3 : Fr.tmps[3]? = some (.pointer (some ⟨w.heap.size + 1, 0, none⟩)) := at_out hEA (d := 3) (by kernel_rfl); simp [execOp, e3, go_sem]
    · refine ob_val (want_is hEA (g := 38) (x := true) (b := true) rfl rfl rfl rfl) (by kernel_rfl) (fun ph w' hp hpm hw => ?_)
      have hc0 := (hw.cell (p := ⟨w.heap.size + 1, 0, none⟩) bv.lt).trans (bv.c 0 _ rfl)
      have hc1 := (hw.cell (p := ⟨w.heap.size + 1, 1, none⟩) bv.lt).trans (bv.c 1 _ rfl)
      have hc2 := (hw.cell (p := ⟨w.heap.size + 1, 2, none⟩) bv.lt).trans (bv.c 2 _ rfl)
      have e66 : Fr.tmps[66]? = some (.pointer (some ⟨w.heap.size + 1, 0, none⟩)) := hEA.dst 39 _ 66 rfl rfl; simp [execOp, e66, hc0, hc1, hc2, go_sem]
    · refine ob_call (q := 6) (f := 21) (args := #[.agg #[.int .i64 p, .int .i64 q, .int .i64 r]]) (want_is hEA (g := 38) (x := true) (b := true) rfl rfl rfl rfl) (by kernel_rfl) (fun w' => by have e67 : Fr.tmps[67]? = some (.agg #[.int .i64 p, .int .i64 q, .int .i64 r]) := hEA.dst 40 _ 67 rfl rfl; simp [e67, go_sem]) ?_
      intro w' hw
      refine (Calls.mono (R := fun E W' => E = .returned (.string (tx (layV p q r))) ∧ Below w'.heap.size w' W') (printId_any p q r w') ?_)
      rintro e w2 ⟨rfl, hb⟩
      exact ⟨rfl, hw.trans (hb.mono hw.size)⟩
    · refine ob_val (want_is hEA (g := 38) (x := true) (b := true) rfl rfl rfl rfl) (by kernel_rfl) (fun ph w' hp hpm hw => ?_)
      have e68 : Fr.tmps[68]? = some (.string (tx (layV p q r))) := hEA.dst 41 _ 68 rfl rfl; simp [e68, tx_size, layV_length, go_sem]
    · refine ob_val (want_is hEA (g := 38) (x := true) (b := true) rfl rfl rfl rfl) (by kernel_rfl) (fun ph w' hp hpm hw => ?_)
      have e69 : Fr.tmps[69]? = some (.int .i64 12) := hEA.dst 42 _ 69 rfl rfl; simp [execOp, e69, go_sem]
    · refine ob_val (want_none rfl) (by kernel_rfl) (fun ph w' hp hpm hw => ?_)
      have e65 : Fr.tmps[65]? = some (.bool true) := hEA.dst 38 _ 65 rfl rfl; have e70 : Fr.tmps[70]? = some (.bool true) := hEA.dst 43 _ 70 rfl rfl; simp [execOp, e65, e70, go_sem]
    · refine ob_val (want_none rfl) (by kernel_rfl) (fun ph w' hp hpm hw => ?_)
      have e71 : Fr.tmps[71]? = some (.bool true) := hEA.dst 44 _ 71 rfl rfl; simp [execOp, e71, go_sem]
  · intro w' hw
    simp only [laid, Act.put, List.setIfInBounds_toArray, List.set_cons_succ, List.set_cons_zero, List.getD_cons_succ, List.getD_cons_zero, Nat.zero_add, Nat.reduceAdd]
    go_wp2_with fail
    go_ret
    exact ⟨rfl, B.trans (hw.mono B.size)⟩

set_option maxRecDepth 100000 in
set_option maxHeartbeats 8000000 in
theorem memberApart_uu (a b c d p q r x y z : Int) (w : World) (ok0 : okM a b = true) (ok1 : okM c d = true) (ok2 : okV p q r = true) (ok3 : okV x y z = true) (hE : a = c → ¬ b = d) (hS : ((tx (layM a b)).toList == (tx (layM c d)).toList) = false) (hF : p = x → q = y → ¬ r = z) (hT : ((tx (layV p q r)).toList == (tx (layV x y z)).toList) = false) :
    Calls Try.prog 7 #[.agg #[.int .i64 a, .int .i64 b, .int .i64 c, .int .i64 d], .agg #[.int .i64 p, .int .i64 q, .int .i64 r, .int .i64 x, .int .i64 y, .int .i64 z]] w fun e w' => e = .returned (.bool true) ∧ Below w.heap.size w w' := by
  go_enter Try.func7, Try.ntmps7
  go_wp2_with fail
  obtain ⟨W0, hW0, bm, bv, B⟩ := new2 w [.int .i64 a, .int .i64 b, .int .i64 c, .int .i64 d] [.int .i64 p, .int .i64 q, .int .i64 r, .int .i64 x, .int .i64 y, .int .i64 z] 47 48
  rw [hW0]
  clear hW0
  refine (Calls.mono (R := fun E W' => E = .returned (.bool true) ∧ Below W0.heap.size W0 W') (by have := mright_any a b W0; rwa [ok0] at this) ?_)
  rintro e W1 ⟨rfl, hb⟩
  replace bm := bm.next hb
  replace bv := bv.next hb
  replace B := B.trans (hb.mono B.size)
  clear hb
  have x0 := bm.c 0 _ rfl
  have x1 := bm.c 1 _ rfl
  have x2 := bm.c 2 _ rfl
  have x3 := bm.c 3 _ rfl
  have y0 := bv.c 0 _ rfl
  have y1 := bv.c 1 _ rfl
  have y2 := bv.c 2 _ rfl
  have y3 := bv.c 3 _ rfl
  have y4 := bv.c 4 _ rfl
  have y5 := bv.c 5 _ rfl
  go_wp2_with fail
  clear x0 x1 x2 x3 y0 y1 y2 y3 y4 y5
  refine (Calls.mono (R := fun E W' => E = .returned (.bool true) ∧ Below W1.heap.size W1 W') (by have := mright_any c d W1; rwa [ok1] at this) ?_)
  rintro e W2 ⟨rfl, hb⟩
  replace bm := bm.next hb
  replace bv := bv.next hb
  replace B := B.trans (hb.mono B.size)
  clear hb
  have x0 := bm.c 0 _ rfl
  have x1 := bm.c 1 _ rfl
  have x2 := bm.c 2 _ rfl
  have x3 := bm.c 3 _ rfl
  have y0 := bv.c 0 _ rfl
  have y1 := bv.c 1 _ rfl
  have y2 := bv.c 2 _ rfl
  have y3 := bv.c 3 _ rfl
  have y4 := bv.c 4 _ rfl
  have y5 := bv.c 5 _ rfl
  go_wp2_with fail
  clear x0 x1 x2 x3 y0 y1 y2 y3 y4 y5
  refine (Calls.mono (R := fun E W' => E = .returned (.bool true) ∧ Below W2.heap.size W2 W') (by have := id_any p q r W2; rwa [ok2] at this) ?_)
  rintro e W3 ⟨rfl, hb⟩
  replace bm := bm.next hb
  replace bv := bv.next hb
  replace B := B.trans (hb.mono B.size)
  clear hb
  have x0 := bm.c 0 _ rfl
  have x1 := bm.c 1 _ rfl
  have x2 := bm.c 2 _ rfl
  have x3 := bm.c 3 _ rfl
  have y0 := bv.c 0 _ rfl
  have y1 := bv.c 1 _ rfl
  have y2 := bv.c 2 _ rfl
  have y3 := bv.c 3 _ rfl
  have y4 := bv.c 4 _ rfl
  have y5 := bv.c 5 _ rfl
  go_wp2_with fail
  clear x0 x1 x2 x3 y0 y1 y2 y3 y4 y5
  refine (Calls.mono (R := fun E W' => E = .returned (.bool true) ∧ Below W3.heap.size W3 W') (by have := id_any x y z W3; rwa [ok3] at this) ?_)
  rintro e W4 ⟨rfl, hb⟩
  replace bm := bm.next hb
  replace bv := bv.next hb
  replace B := B.trans (hb.mono B.size)
  clear hb
  go_wp2_with fail
  refine wp_region_plan (fun i => ([.bool true, .bool true, .pointer (some ⟨w.heap.size, 0, none⟩), .agg #[.int .i64 a, .int .i64 b], .string (tx (layM a b)), .pointer (some ⟨w.heap.size, 2, none⟩), .agg #[.int .i64 c, .int .i64 d], .string (tx (layM c d)), .bool false, .pointer (some ⟨w.heap.size, 0, none⟩), .agg #[.int .i64 a, .int .i64 b], .pointer (some ⟨w.heap.size, 2, none⟩), .agg #[.int .i64 c, .int .i64 d], .bool false, .bool true, .bool true, .bool true, .pointer (some ⟨w.heap.size + 1, 0, none⟩), .agg #[.int .i64 p, .int .i64 q, .int .i64 r], .string (tx (layV p q r)), .pointer (some ⟨w.heap.size + 1, 3, none⟩), .agg #[.int .i64 x, .int .i64 y, .int .i64 z], .string (tx (layV x y z)), .bool false, .pointer (some ⟨w.heap.size + 1, 0, none⟩), .agg #[.int .i64 p, .int .i64 q, .int .i64 r], .pointer (some ⟨w.heap.size + 1, 3, none⟩), .agg #[.int .i64 x, .int .i64 y, .int .i64 z], .bool false, .bool true, .bool true, .bool true, .pointer (some ⟨w.heap.size, 0, none⟩), .agg #[.int .i64 a, .int .i64 b], .string (tx (layM a b)), .int .i64 8, .bool true, .bool true, .bool true, .pointer (some ⟨w.heap.size + 1, 0, none⟩), .agg #[.int .i64 p, .int .i64 q, .int .i64 r], .string (tx (layV p q r)), .int .i64 12, .bool true, .bool true, .bool true] : List Value).getD i undef) [0, 4, 7, 19, 22, 34, 41] [0, 1, 1, 1, 1, 1, 1, 2, 3, 1, 1, 1, 1, 1, 3, 3, 3, 3, 3, 3, 3, 3, 4, 5, 3, 3, 3, 3, 3, 5, 5, 5, 5, 5, 5, 6, 6, 6, 6, 6, 6, 6, 7, 7, 7, 7] (fun _ w' => Below W4.heap.size W4 w') (by kernel_rfl) (by kernel_rfl) (⟨rfl, rfl, rfl, Nat.le_refl _, fun _ _ => rfl⟩) ?_ ?_
  · refine Obs_of_ends (by kernel_rfl) ?_
    intro Fr hEA
    refine ⟨?_, ?_, ?_, ?_, ?_, ?_, ?_, ?_, ?_, ?_, ?_, ?_, ?_, ?_, ?_, ?_, ?_, ?_, ?_, ?_, ?_, ?_, ?_, ?_, ?_, ?_, ?_, ?_, ?_, ?_, ?_, ?_, ?_, ?_, ?_, ?_, ?_, ?_, ?_, ?_, ?_, ?_, ?_, ?_, ?_, ?_, trivial⟩
    · refine ob_call (q := 0) (f := 8) (args := #[]) (want_none rfl) (by kernel_rfl) (fun w' => by simp [go_sem]) ?_
      intro w' hw
      refine (Calls.mono (R := fun E W' => E = .returned (.bool true) ∧ Below w'.heap.size w' W') (awake8_any w') ?_)
      rintro e w2 ⟨rfl, hb⟩
      exact ⟨rfl, hw.trans (hb.mono hw.size)⟩
    · exact ob_move _ rfl (want_none rfl) (by kernel_rfl) (eval_dst hEA (j := 0) rfl rfl)
    · refine ob_val (want_is hEA (g := 1) (x := true) (b := true) rfl rfl rfl rfl) (by kernel_rfl) (fun ph w' hp hpm hw => ?_)
      have e2 : Fr.tmps[2]? = some (.pointer (some ⟨w.heap.size, 0, none⟩)) := at_out hEA (d := 2) (by kernel_rfl); simp [execOp, e2, go_sem]
    · refine ob_val (want_is hEA (g := 1) (x := true) (b := true) rfl rfl rfl rfl) (by kernel_rfl) (fun ph w' hp hpm hw => ?_)
      have hc0 := (hw.cell (p := ⟨w.heap.size, 0, none⟩) bm.lt).trans (bm.c 0 _ rfl)
      have hc1 := (hw.cell (p := ⟨w.heap.size, 1, none⟩) bm.lt).trans (bm.c 1 _ rfl)
      have e29 : Fr.tmps[29]? = some (.pointer (some ⟨w.heap.size, 0, none⟩)) := hEA.dst 2 _ 29 rfl rfl; simp [execOp, e29, hc0, hc1, go_sem]
    · refine ob_call (q := 1) (f := 19) (args := #[.agg #[.int .i64 a, .int .i64 b]]) (want_is hEA (g := 1) (x := true) (b := true) rfl rfl rfl rfl) (by kernel_rfl) (fun w' => by have e30 : Fr.tmps[30]? = some (.agg #[.int .i64 a, .int .i64 b]) := hEA.dst 3 _ 30 rfl rfl; simp [e30, go_sem]) ?_
      intro w' hw
      refine (Calls.mono (R := fun E W' => E = .returned (.string (tx (layM a b))) ∧ Below w'.heap.size w' W') (print_any a b w') ?_)
      rintro e w2 ⟨rfl, hb⟩
      exact ⟨rfl, hw.trans (hb.mono hw.size)⟩
    · refine ob_val (want_is hEA (g := 1) (x := true) (b := true) rfl rfl rfl rfl) (by kernel_rfl) (fun ph w' hp hpm hw => ?_)
      have e2 : Fr.tmps[2]? = some (.pointer (some ⟨w.heap.size, 0, none⟩)) := at_out hEA (d := 2) (by kernel_rfl); simp [execOp, e2, go_sem]
    · refine ob_val (want_is hEA (g := 1) (x := true) (b := true) rfl rfl rfl rfl) (by kernel_rfl) (fun ph w' hp hpm hw => ?_)
      have hc0 := (hw.cell (p := ⟨w.heap.size, 2, none⟩) bm.lt).trans (bm.c 2 _ rfl)
      have hc1 := (hw.cell (p := ⟨w.heap.size, 3, none⟩) bm.lt).trans (bm.c 3 _ rfl)
      have e32 : Fr.tmps[32]? = some (.pointer (some ⟨w.heap.size, 2, none⟩)) := hEA.dst 5 _ 32 rfl rfl; simp [execOp, e32, hc0, hc1, go_sem]
    · refine ob_call (q := 2) (f := 19) (args := #[.agg #[.int .i64 c, .int .i64 d]]) (want_is hEA (g := 1) (x := true) (b := true) rfl rfl rfl rfl) (by kernel_rfl) (fun w' => by have e33 : Fr.tmps[33]? = some (.agg #[.int .i64 c, .int .i64 d]) := hEA.dst 6 _ 33 rfl rfl; simp [e33, go_sem]) ?_
      intro w' hw
      refine (Calls.mono (R := fun E W' => E = .returned (.string (tx (layM c d))) ∧ Below w'.heap.size w' W') (print_any c d w') ?_)
      rintro e w2 ⟨rfl, hb⟩
      exact ⟨rfl, hw.trans (hb.mono hw.size)⟩
    · refine ob_val (want_is hEA (g := 1) (x := true) (b := true) rfl rfl rfl rfl) (by kernel_rfl) (fun ph w' hp hpm hw => ?_)
      have e31 : Fr.tmps[31]? = some (.string (tx (layM a b))) := hEA.dst 4 _ 31 rfl rfl; have e34 : Fr.tmps[34]? = some (.string (tx (layM c d))) := hEA.dst 7 _ 34 rfl rfl; simp [execOp, e31, e34, hS, go_sem]
    · refine ob_val (want_is hEA (g := 1) (x := true) (b := true) rfl rfl rfl rfl) (by kernel_rfl) (fun ph w' hp hpm hw => ?_)
      have e2 : Fr.tmps[2]? = some (.pointer (some ⟨w.heap.size, 0, none⟩)) := at_out hEA (d := 2) (by kernel_rfl); simp [execOp, e2, go_sem]
    · refine ob_val (want_is hEA (g := 1) (x := true) (b := true) rfl rfl rfl rfl) (by kernel_rfl) (fun ph w' hp hpm hw => ?_)
      have hc0 := (hw.cell (p := ⟨w.heap.size, 0, none⟩) bm.lt).trans (bm.c 0 _ rfl)
      have hc1 := (hw.cell (p := ⟨w.heap.size, 1, none⟩) bm.lt).trans (bm.c 1 _ rfl)
      have e36 : Fr.tmps[36]? = some (.pointer (some ⟨w.heap.size, 0, none⟩)) := hEA.dst 9 _ 36 rfl rfl; simp [execOp, e36, hc0, hc1, go_sem]
    · refine ob_val (want_is hEA (g := 1) (x := true) (b := true) rfl rfl rfl rfl) (by kernel_rfl) (fun ph w' hp hpm hw => ?_)
      have e2 : Fr.tmps[2]? = some (.pointer (some ⟨w.heap.size, 0, none⟩)) := at_out hEA (d := 2) (by kernel_rfl); simp [execOp, e2, go_sem]
    · refine ob_val (want_is hEA (g := 1) (x := true) (b := true) rfl rfl rfl rfl) (by kernel_rfl) (fun ph w' hp hpm hw => ?_)
      have hc0 := (hw.cell (p := ⟨w.heap.size, 2, none⟩) bm.lt).trans (bm.c 2 _ rfl)
      have hc1 := (hw.cell (p := ⟨w.heap.size, 3, none⟩) bm.lt).trans (bm.c 3 _ rfl)
      have e38 : Fr.tmps[38]? = some (.pointer (some ⟨w.heap.size, 2, none⟩)) := hEA.dst 11 _ 38 rfl rfl; simp [execOp, e38, hc0, hc1, go_sem]
    · refine ob_val (want_is hEA (g := 1) (x := true) (b := true) rfl rfl rfl rfl) (by kernel_rfl) (fun ph w' hp hpm hw => ?_)
      have e37 : Fr.tmps[37]? = some (.agg #[.int .i64 a, .int .i64 b]) := hEA.dst 10 _ 37 rfl rfl; have e39 : Fr.tmps[39]? = some (.agg #[.int .i64 c, .int .i64 d]) := hEA.dst 12 _ 39 rfl rfl; simp [execOp, e37, e39, go_sem]; exact hE
    · refine ob_val (want_is hEA (g := 1) (x := true) (b := true) rfl rfl rfl rfl) (by kernel_rfl) (fun ph w' hp hpm hw => ?_)
      have e35 : Fr.tmps[35]? = some (.bool false) := hEA.dst 8 _ 35 rfl rfl; have e40 : Fr.tmps[40]? = some (.bool false) := hEA.dst 13 _ 40 rfl rfl; simp [execOp, e35, e40, go_sem]
    · refine ob_val (want_none rfl) (by kernel_rfl) (fun ph w' hp hpm hw => ?_)
      have e28 : Fr.tmps[28]? = some (.bool true) := hEA.dst 1 _ 28 rfl rfl; have e41 : Fr.tmps[41]? = some (.bool true) := hEA.dst 14 _ 41 rfl rfl; simp [execOp, e28, e41, go_sem]
    · exact ob_move _ rfl (want_none rfl) (by kernel_rfl) (eval_dst hEA (j := 15) rfl rfl)
    · refine ob_val (want_is hEA (g := 16) (x := true) (b := true) rfl rfl rfl rfl) (by kernel_rfl) (fun ph w' hp hpm hw => ?_)
      have e3 : Fr.tmps[3]? = some (.pointer (some ⟨w.heap.size + 1, 0, none⟩)) := at_out hEA (d := 3) (by kernel_rfl); simp [execOp, e3, go_sem]
    · refine ob_val (want_is hEA (g := 16) (x := true) (b := true) rfl rfl rfl rfl) (by kernel_rfl) (fun ph w' hp hpm hw => ?_)
      have hc0 := (hw.cell (p := ⟨w.heap.size + 1, 0, none⟩) bv.lt).trans (bv.c 0 _ rfl)
      have hc1 := (hw.cell (p := ⟨w.heap.size + 1, 1, none⟩) bv.lt).trans (bv.c 1 _ rfl)
      have hc2 := (hw.cell (p := ⟨w.heap.size + 1, 2, none⟩) bv.lt).trans (bv.c 2 _ rfl)
      have e44 : Fr.tmps[44]? = some (.pointer (some ⟨w.heap.size + 1, 0, none⟩)) := hEA.dst 17 _ 44 rfl rfl; simp [execOp, e44, hc0, hc1, hc2, go_sem]
    · refine ob_call (q := 3) (f := 21) (args := #[.agg #[.int .i64 p, .int .i64 q, .int .i64 r]]) (want_is hEA (g := 16) (x := true) (b := true) rfl rfl rfl rfl) (by kernel_rfl) (fun w' => by have e45 : Fr.tmps[45]? = some (.agg #[.int .i64 p, .int .i64 q, .int .i64 r]) := hEA.dst 18 _ 45 rfl rfl; simp [e45, go_sem]) ?_
      intro w' hw
      refine (Calls.mono (R := fun E W' => E = .returned (.string (tx (layV p q r))) ∧ Below w'.heap.size w' W') (printId_any p q r w') ?_)
      rintro e w2 ⟨rfl, hb⟩
      exact ⟨rfl, hw.trans (hb.mono hw.size)⟩
    · refine ob_val (want_is hEA (g := 16) (x := true) (b := true) rfl rfl rfl rfl) (by kernel_rfl) (fun ph w' hp hpm hw => ?_)
      have e3 : Fr.tmps[3]? = some (.pointer (some ⟨w.heap.size + 1, 0, none⟩)) := at_out hEA (d := 3) (by kernel_rfl); simp [execOp, e3, go_sem]
    · refine ob_val (want_is hEA (g := 16) (x := true) (b := true) rfl rfl rfl rfl) (by kernel_rfl) (fun ph w' hp hpm hw => ?_)
      have hc0 := (hw.cell (p := ⟨w.heap.size + 1, 3, none⟩) bv.lt).trans (bv.c 3 _ rfl)
      have hc1 := (hw.cell (p := ⟨w.heap.size + 1, 4, none⟩) bv.lt).trans (bv.c 4 _ rfl)
      have hc2 := (hw.cell (p := ⟨w.heap.size + 1, 5, none⟩) bv.lt).trans (bv.c 5 _ rfl)
      have e47 : Fr.tmps[47]? = some (.pointer (some ⟨w.heap.size + 1, 3, none⟩)) := hEA.dst 20 _ 47 rfl rfl; simp [execOp, e47, hc0, hc1, hc2, go_sem]
    · refine ob_call (q := 4) (f := 21) (args := #[.agg #[.int .i64 x, .int .i64 y, .int .i64 z]]) (want_is hEA (g := 16) (x := true) (b := true) rfl rfl rfl rfl) (by kernel_rfl) (fun w' => by have e48 : Fr.tmps[48]? = some (.agg #[.int .i64 x, .int .i64 y, .int .i64 z]) := hEA.dst 21 _ 48 rfl rfl; simp [e48, go_sem]) ?_
      intro w' hw
      refine (Calls.mono (R := fun E W' => E = .returned (.string (tx (layV x y z))) ∧ Below w'.heap.size w' W') (printId_any x y z w') ?_)
      rintro e w2 ⟨rfl, hb⟩
      exact ⟨rfl, hw.trans (hb.mono hw.size)⟩
    · refine ob_val (want_is hEA (g := 16) (x := true) (b := true) rfl rfl rfl rfl) (by kernel_rfl) (fun ph w' hp hpm hw => ?_)
      have e46 : Fr.tmps[46]? = some (.string (tx (layV p q r))) := hEA.dst 19 _ 46 rfl rfl; have e49 : Fr.tmps[49]? = some (.string (tx (layV x y z))) := hEA.dst 22 _ 49 rfl rfl; simp [execOp, e46, e49, hT, go_sem]
    · refine ob_val (want_is hEA (g := 16) (x := true) (b := true) rfl rfl rfl rfl) (by kernel_rfl) (fun ph w' hp hpm hw => ?_)
      have e3 : Fr.tmps[3]? = some (.pointer (some ⟨w.heap.size + 1, 0, none⟩)) := at_out hEA (d := 3) (by kernel_rfl); simp [execOp, e3, go_sem]
    · refine ob_val (want_is hEA (g := 16) (x := true) (b := true) rfl rfl rfl rfl) (by kernel_rfl) (fun ph w' hp hpm hw => ?_)
      have hc0 := (hw.cell (p := ⟨w.heap.size + 1, 0, none⟩) bv.lt).trans (bv.c 0 _ rfl)
      have hc1 := (hw.cell (p := ⟨w.heap.size + 1, 1, none⟩) bv.lt).trans (bv.c 1 _ rfl)
      have hc2 := (hw.cell (p := ⟨w.heap.size + 1, 2, none⟩) bv.lt).trans (bv.c 2 _ rfl)
      have e51 : Fr.tmps[51]? = some (.pointer (some ⟨w.heap.size + 1, 0, none⟩)) := hEA.dst 24 _ 51 rfl rfl; simp [execOp, e51, hc0, hc1, hc2, go_sem]
    · refine ob_val (want_is hEA (g := 16) (x := true) (b := true) rfl rfl rfl rfl) (by kernel_rfl) (fun ph w' hp hpm hw => ?_)
      have e3 : Fr.tmps[3]? = some (.pointer (some ⟨w.heap.size + 1, 0, none⟩)) := at_out hEA (d := 3) (by kernel_rfl); simp [execOp, e3, go_sem]
    · refine ob_val (want_is hEA (g := 16) (x := true) (b := true) rfl rfl rfl rfl) (by kernel_rfl) (fun ph w' hp hpm hw => ?_)
      have hc0 := (hw.cell (p := ⟨w.heap.size + 1, 3, none⟩) bv.lt).trans (bv.c 3 _ rfl)
      have hc1 := (hw.cell (p := ⟨w.heap.size + 1, 4, none⟩) bv.lt).trans (bv.c 4 _ rfl)
      have hc2 := (hw.cell (p := ⟨w.heap.size + 1, 5, none⟩) bv.lt).trans (bv.c 5 _ rfl)
      have e53 : Fr.tmps[53]? = some (.pointer (some ⟨w.heap.size + 1, 3, none⟩)) := hEA.dst 26 _ 53 rfl rfl; simp [execOp, e53, hc0, hc1, hc2, go_sem]
    · refine ob_val (want_is hEA (g := 16) (x := true) (b := true) rfl rfl rfl rfl) (by kernel_rfl) (fun ph w' hp hpm hw => ?_)
      have e52 : Fr.tmps[52]? = some (.agg #[.int .i64 p, .int .i64 q, .int .i64 r]) := hEA.dst 25 _ 52 rfl rfl; have e54 : Fr.tmps[54]? = some (.agg #[.int .i64 x, .int .i64 y, .int .i64 z]) := hEA.dst 27 _ 54 rfl rfl; simp [execOp, e52, e54, go_sem]; exact hF
    · refine ob_val (want_is hEA (g := 16) (x := true) (b := true) rfl rfl rfl rfl) (by kernel_rfl) (fun ph w' hp hpm hw => ?_)
      have e50 : Fr.tmps[50]? = some (.bool false) := hEA.dst 23 _ 50 rfl rfl; have e55 : Fr.tmps[55]? = some (.bool false) := hEA.dst 28 _ 55 rfl rfl; simp [execOp, e50, e55, go_sem]
    · refine ob_val (want_none rfl) (by kernel_rfl) (fun ph w' hp hpm hw => ?_)
      have e43 : Fr.tmps[43]? = some (.bool true) := hEA.dst 16 _ 43 rfl rfl; have e56 : Fr.tmps[56]? = some (.bool true) := hEA.dst 29 _ 56 rfl rfl; simp [execOp, e43, e56, go_sem]
    · exact ob_move _ rfl (want_none rfl) (by kernel_rfl) (eval_dst hEA (j := 30) rfl rfl)
    · refine ob_val (want_is hEA (g := 31) (x := true) (b := true) rfl rfl rfl rfl) (by kernel_rfl) (fun ph w' hp hpm hw => ?_)
      have e2 : Fr.tmps[2]? = some (.pointer (some ⟨w.heap.size, 0, none⟩)) := at_out hEA (d := 2) (by kernel_rfl); simp [execOp, e2, go_sem]
    · refine ob_val (want_is hEA (g := 31) (x := true) (b := true) rfl rfl rfl rfl) (by kernel_rfl) (fun ph w' hp hpm hw => ?_)
      have hc0 := (hw.cell (p := ⟨w.heap.size, 0, none⟩) bm.lt).trans (bm.c 0 _ rfl)
      have hc1 := (hw.cell (p := ⟨w.heap.size, 1, none⟩) bm.lt).trans (bm.c 1 _ rfl)
      have e59 : Fr.tmps[59]? = some (.pointer (some ⟨w.heap.size, 0, none⟩)) := hEA.dst 32 _ 59 rfl rfl; simp [execOp, e59, hc0, hc1, go_sem]
    · refine ob_call (q := 5) (f := 19) (args := #[.agg #[.int .i64 a, .int .i64 b]]) (want_is hEA (g := 31) (x := true) (b := true) rfl rfl rfl rfl) (by kernel_rfl) (fun w' => by have e60 : Fr.tmps[60]? = some (.agg #[.int .i64 a, .int .i64 b]) := hEA.dst 33 _ 60 rfl rfl; simp [e60, go_sem]) ?_
      intro w' hw
      refine (Calls.mono (R := fun E W' => E = .returned (.string (tx (layM a b))) ∧ Below w'.heap.size w' W') (print_any a b w') ?_)
      rintro e w2 ⟨rfl, hb⟩
      exact ⟨rfl, hw.trans (hb.mono hw.size)⟩
    · refine ob_val (want_is hEA (g := 31) (x := true) (b := true) rfl rfl rfl rfl) (by kernel_rfl) (fun ph w' hp hpm hw => ?_)
      have e61 : Fr.tmps[61]? = some (.string (tx (layM a b))) := hEA.dst 34 _ 61 rfl rfl; simp [e61, tx_size, layM_length, go_sem]
    · refine ob_val (want_is hEA (g := 31) (x := true) (b := true) rfl rfl rfl rfl) (by kernel_rfl) (fun ph w' hp hpm hw => ?_)
      have e62 : Fr.tmps[62]? = some (.int .i64 8) := hEA.dst 35 _ 62 rfl rfl; simp [execOp, e62, go_sem]
    · refine ob_val (want_none rfl) (by kernel_rfl) (fun ph w' hp hpm hw => ?_)
      have e58 : Fr.tmps[58]? = some (.bool true) := hEA.dst 31 _ 58 rfl rfl; have e63 : Fr.tmps[63]? = some (.bool true) := hEA.dst 36 _ 63 rfl rfl; simp [execOp, e58, e63, go_sem]
    · exact ob_move _ rfl (want_none rfl) (by kernel_rfl) (eval_dst hEA (j := 37) rfl rfl)
    · refine ob_val (want_is hEA (g := 38) (x := true) (b := true) rfl rfl rfl rfl) (by kernel_rfl) (fun ph w' hp hpm hw => ?_)
      have e3 : Fr.tmps[3]? = some (.pointer (some ⟨w.heap.size + 1, 0, none⟩)) := at_out hEA (d := 3) (by kernel_rfl); simp [execOp, e3, go_sem]
    · refine ob_val (want_is hEA (g := 38) (x := true) (b := true) rfl rfl rfl rfl) (by kernel_rfl) (fun ph w' hp hpm hw => ?_)
      have hc0 := (hw.cell (p := ⟨w.heap.size + 1, 0, none⟩) bv.lt).trans (bv.c 0 _ rfl)
      have hc1 := (hw.cell (p := ⟨w.heap.size + 1, 1, none⟩) bv.lt).trans (bv.c 1 _ rfl)
      have hc2 := (hw.cell (p := ⟨w.heap.size + 1, 2, none⟩) bv.lt).trans (bv.c 2 _ rfl)
      have e66 : Fr.tmps[66]? = some (.pointer (some ⟨w.heap.size + 1, 0, none⟩)) := hEA.dst 39 _ 66 rfl rfl; simp [execOp, e66, hc0, hc1, hc2, go_sem]
    · refine ob_call (q := 6) (f := 21) (args := #[.agg #[.int .i64 p, .int .i64 q, .int .i64 r]]) (want_is hEA (g := 38) (x := true) (b := true) rfl rfl rfl rfl) (by kernel_rfl) (fun w' => by have e67 : Fr.tmps[67]? = some (.agg #[.int .i64 p, .int .i64 q, .int .i64 r]) := hEA.dst 40 _ 67 rfl rfl; simp [e67, go_sem]) ?_
      intro w' hw
      refine (Calls.mono (R := fun E W' => E = .returned (.string (tx (layV p q r))) ∧ Below w'.heap.size w' W') (printId_any p q r w') ?_)
      rintro e w2 ⟨rfl, hb⟩
      exact ⟨rfl, hw.trans (hb.mono hw.size)⟩
    · refine ob_val (want_is hEA (g := 38) (x := true) (b := true) rfl rfl rfl rfl) (by kernel_rfl) (fun ph w' hp hpm hw => ?_)
      have e68 : Fr.tmps[68]? = some (.string (tx (layV p q r))) := hEA.dst 41 _ 68 rfl rfl; simp [e68, tx_size, layV_length, go_sem]
    · refine ob_val (want_is hEA (g := 38) (x := true) (b := true) rfl rfl rfl rfl) (by kernel_rfl) (fun ph w' hp hpm hw => ?_)
      have e69 : Fr.tmps[69]? = some (.int .i64 12) := hEA.dst 42 _ 69 rfl rfl; simp [execOp, e69, go_sem]
    · refine ob_val (want_none rfl) (by kernel_rfl) (fun ph w' hp hpm hw => ?_)
      have e65 : Fr.tmps[65]? = some (.bool true) := hEA.dst 38 _ 65 rfl rfl; have e70 : Fr.tmps[70]? = some (.bool true) := hEA.dst 43 _ 70 rfl rfl; simp [execOp, e65, e70, go_sem]
    · refine ob_val (want_none rfl) (by kernel_rfl) (fun ph w' hp hpm hw => ?_)
      have e71 : Fr.tmps[71]? = some (.bool true) := hEA.dst 44 _ 71 rfl rfl; simp [execOp, e71, go_sem]
  · intro w' hw
    simp only [laid, Act.put, List.setIfInBounds_toArray, List.set_cons_succ, List.set_cons_zero, List.getD_cons_succ, List.getD_cons_zero, Nat.zero_add, Nat.reduceAdd]
    go_wp2_with fail
    go_ret
    exact ⟨rfl, B.trans (hw.mono B.size)⟩

set_option maxRecDepth 100000 in
set_option maxHeartbeats 8000000 in
theorem memberApart_out (a b c d p q r x y z : Int) (w : World) (h : ¬ (okM a b = true ∧ okM c d = true ∧ okV p q r = true ∧ okV x y z = true)) :
    Calls Try.prog 7 #[.agg #[.int .i64 a, .int .i64 b, .int .i64 c, .int .i64 d], .agg #[.int .i64 p, .int .i64 q, .int .i64 r, .int .i64 x, .int .i64 y, .int .i64 z]] w fun e w' => e = .returned (.bool true) ∧ Below w.heap.size w w' := by
  go_enter Try.func7, Try.ntmps7
  go_wp2_with fail
  obtain ⟨W0, hW0, bm, bv, B⟩ := new2 w [.int .i64 a, .int .i64 b, .int .i64 c, .int .i64 d] [.int .i64 p, .int .i64 q, .int .i64 r, .int .i64 x, .int .i64 y, .int .i64 z] 47 48
  rw [hW0]
  clear hW0
  refine (mright_any a b W0).mono ?_
  rintro e W1 ⟨rfl, hb⟩
  replace bm := bm.next hb
  replace bv := bv.next hb
  replace B := B.trans (hb.mono B.size)
  clear hb
  cases hk0 : okM a b
  · go_wp2_with fail
    refine (awake8_any _).mono ?_
    rintro e Wz ⟨rfl, hb⟩
    go_wp2
    go_ret
    exact ⟨rfl, B.trans (hb.mono B.size)⟩
  · skip
    have x0 := bm.c 0 _ rfl
    have x1 := bm.c 1 _ rfl
    have x2 := bm.c 2 _ rfl
    have x3 := bm.c 3 _ rfl
    have y0 := bv.c 0 _ rfl
    have y1 := bv.c 1 _ rfl
    have y2 := bv.c 2 _ rfl
    have y3 := bv.c 3 _ rfl
    have y4 := bv.c 4 _ rfl
    have y5 := bv.c 5 _ rfl
    go_wp2_with fail
    clear x0 x1 x2 x3 y0 y1 y2 y3 y4 y5
    refine (mright_any c d W1).mono ?_
    rintro e W2 ⟨rfl, hb⟩
    replace bm := bm.next hb
    replace bv := bv.next hb
    replace B := B.trans (hb.mono B.size)
    clear hb
    cases hk1 : okM c d
    · go_wp2_with fail
      refine (awake8_any _).mono ?_
      rintro e Wz ⟨rfl, hb⟩
      go_wp2
      go_ret
      exact ⟨rfl, B.trans (hb.mono B.size)⟩
    · skip
      have x0 := bm.c 0 _ rfl
      have x1 := bm.c 1 _ rfl
      have x2 := bm.c 2 _ rfl
      have x3 := bm.c 3 _ rfl
      have y0 := bv.c 0 _ rfl
      have y1 := bv.c 1 _ rfl
      have y2 := bv.c 2 _ rfl
      have y3 := bv.c 3 _ rfl
      have y4 := bv.c 4 _ rfl
      have y5 := bv.c 5 _ rfl
      go_wp2_with fail
      clear x0 x1 x2 x3 y0 y1 y2 y3 y4 y5
      refine (id_any p q r W2).mono ?_
      rintro e W3 ⟨rfl, hb⟩
      replace bm := bm.next hb
      replace bv := bv.next hb
      replace B := B.trans (hb.mono B.size)
      clear hb
      cases hk2 : okV p q r
      · go_wp2_with fail
        refine (awake8_any _).mono ?_
        rintro e Wz ⟨rfl, hb⟩
        go_wp2
        go_ret
        exact ⟨rfl, B.trans (hb.mono B.size)⟩
      · skip
        have x0 := bm.c 0 _ rfl
        have x1 := bm.c 1 _ rfl
        have x2 := bm.c 2 _ rfl
        have x3 := bm.c 3 _ rfl
        have y0 := bv.c 0 _ rfl
        have y1 := bv.c 1 _ rfl
        have y2 := bv.c 2 _ rfl
        have y3 := bv.c 3 _ rfl
        have y4 := bv.c 4 _ rfl
        have y5 := bv.c 5 _ rfl
        go_wp2_with fail
        clear x0 x1 x2 x3 y0 y1 y2 y3 y4 y5
        refine (id_any x y z W3).mono ?_
        rintro e W4 ⟨rfl, hb⟩
        replace bm := bm.next hb
        replace bv := bv.next hb
        replace B := B.trans (hb.mono B.size)
        clear hb
        cases hk3 : okV x y z
        · go_wp2_with fail
          refine (awake8_any _).mono ?_
          rintro e Wz ⟨rfl, hb⟩
          go_wp2
          go_ret
          exact ⟨rfl, B.trans (hb.mono B.size)⟩
        · exact absurd ⟨hk0, hk1, hk2, hk3⟩ h

theorem two_M {n : Nat} {w : World} {xs : List (Int × Int)} {cs : List Value} (h : Arr 2 2 IsM n w xs cs) : ∃ a b c d : Int, cs = [.int .i64 a, .int .i64 b, .int .i64 c, .int .i64 d] := by
  obtain ⟨h1, h2, h3⟩ := h
  match xs, h1, cs, h2 with
  | [m, n], _, [u, v, s, t], _ =>
    have e0 := h3 0 (by simp)
    have e1 := h3 1 (by simp)
    simp [IsM] at e0 e1
    exact ⟨m.1, m.2, n.1, n.2, by rw [e0.1, e0.2, e1.1, e1.2]⟩
theorem two_V {n : Nat} {w : World} {xs : List (Int × Int × Int)} {cs : List Value} (h : Arr 2 3 IsV n w xs cs) : ∃ p q r x y z : Int, cs = [.int .i64 p, .int .i64 q, .int .i64 r, .int .i64 x, .int .i64 y, .int .i64 z] := by
  obtain ⟨h1, h2, h3⟩ := h
  match xs, h1, cs, h2 with
  | [m, n], _, [u, v, s, t, i, j], _ =>
    have e0 := h3 0 (by simp)
    have e1 := h3 1 (by simp)
    simp [IsV] at e0 e1
    exact ⟨m.1, m.2.1, m.2.2, n.1, n.2.1, n.2.2, by rw [e0.1, e0.2.1, e0.2.2, e1.1, e1.2.1, e1.2.2]⟩
theorem opens_2M : Opens Try.prog 47 (Arr 2 2 IsM) := opens_arr Try.underlying47 (by kernel_rfl) (by kernel_rfl) opens_M
theorem opens_2V : Opens Try.prog 48 (Arr 2 3 IsV) := opens_arr Try.underlying48 (by kernel_rfl) (by kernel_rfl) opens_V

theorem memberApart_walk (m v : Array Value) (w : World) (w0 : ∃ xs, Arr 2 2 IsM w.heap.size w xs m.toList) (w1 : ∃ xs, Arr 2 3 IsV w.heap.size w xs v.toList) :
    Calls Try.prog 7 #[.agg m, .agg v] w fun e w' => e = .returned (.bool true) ∧ Below w.heap.size w w' := by
  obtain ⟨xs, h0⟩ := w0
  obtain ⟨ys, h1⟩ := w1
  obtain ⟨a, b, c, d, e0⟩ := two_M h0
  obtain ⟨p, q, r, x, y, z, e1⟩ := two_V h1
  have e0 : m = #[.int .i64 a, .int .i64 b, .int .i64 c, .int .i64 d] := by cases m; exact congrArg Array.mk e0
  have e1 : v = #[.int .i64 p, .int .i64 q, .int .i64 r, .int .i64 x, .int .i64 y, .int .i64 z] := by cases v; exact congrArg Array.mk e1
  subst e0 e1
  by_cases h : okM a b = true ∧ okM c d = true ∧ okV p q r = true ∧ okV x y z = true
  · obtain ⟨k0, k1, k2, k3⟩ := h
    have hS : ¬ (a = c ∧ b = d) → ((tx (layM a b)).toList == (tx (layM c d)).toList) = false := fun hn => by
      rw [tx_eq]
      simpa using fun e => hn (layM_inj k0 k1 e)
    have hT : ¬ (p = x ∧ q = y ∧ r = z) → ((tx (layV p q r)).toList == (tx (layV x y z)).toList) = false := fun hn => by
      rw [tx_eq]
      simpa using fun e => hn (layV_inj k2 k3 e)
    by_cases hE : a = c ∧ b = d
    · obtain ⟨rfl, rfl⟩ := hE
      by_cases hF : p = x ∧ q = y ∧ r = z
      · obtain ⟨rfl, rfl, rfl⟩ := hF
        exact memberApart_ss a b p q r w k0 k1 k2 k3
      · exact memberApart_su a b p q r x y z w k0 k1 k2 k3 (fun h1 h2 h3 => hF ⟨h1, h2, h3⟩) (hT hF)
    · by_cases hF : p = x ∧ q = y ∧ r = z
      · obtain ⟨rfl, rfl, rfl⟩ := hF
        exact memberApart_us a b c d p q r w k0 k1 k2 k3 (fun h1 h2 => hE ⟨h1, h2⟩) (hS hE)
      · exact memberApart_uu a b c d p q r x y z w k0 k1 k2 k3 (fun h1 h2 => hE ⟨h1, h2⟩) (hS hE) (fun h1 h2 h3 => hF ⟨h1, h2, h3⟩) (hT hF)
  · exact memberApart_out a b c d p q r x y z w h

end Go.Proofs.Ytbjefnboppfnaaa
