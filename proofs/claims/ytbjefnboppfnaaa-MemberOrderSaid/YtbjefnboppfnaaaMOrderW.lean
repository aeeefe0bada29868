/- lodgelaw08.MemberOrder answers true, whatever three members come in, and leaves memory below as it was. No condition. -/
import Derived.Test.YtbjefnboppfnaaaAwake8
namespace Go.Proofs.Ytbjefnboppfnaaa
open Go.RowKit
set_option linter.unusedVariables false

set_option maxRecDepth 100000 in
set_option maxHeartbeats 8000000 in
theorem memberOrder_same (a b e f : Int) (w : World) (hP : lessM a b a b = false) :
    Calls Try.prog 6 #[vM a b, vM a b, vM e f] w fun e w' => e = .returned (.bool true) ∧ Below w.heap.size w w' := by
  go_enter Try.func6, Try.ntmps6
  go_wp2_with fail
  obtain ⟨W0, hW0, b0, b1, b2, B⟩ := new3 w [.int .i64 a, .int .i64 b] [.int .i64 a, .int .i64 b] [.int .i64 e, .int .i64 f] 24 24 24
  rw [hW0]
  clear hW0
  refine wp_region_plan (fun i => ([.bool true, .bool true, .agg #[.int .i64 a, .int .i64 b], .agg #[.int .i64 a, .int .i64 b], .bool true, .agg #[.int .i64 a, .int .i64 b], .agg #[.int .i64 a, .int .i64 b], .bool false, .bool true, .bool true, .agg #[.int .i64 a, .int .i64 b], .agg #[.int .i64 a, .int .i64 b], .bool false, .bool true, .bool true, .bool true, .bool true, .bool true, .agg #[.int .i64 a, .int .i64 b], .agg #[.int .i64 a, .int .i64 b], .bool false, .bool false, undef, undef, undef, .bool false, .bool true, .bool true, .bool true, .agg #[.int .i64 a, .int .i64 b], .agg #[.int .i64 a, .int .i64 b], .bool false, .bool true, .bool true, undef, undef, undef, undef, .bool true, .bool true, undef, undef, undef, .bool true, .bool true, .bool true] : List Value).getD i undef) [0, 7, 12, 20, 31] [0, 1, 1, 1, 1, 1, 1, 1, 2, 2, 2, 2, 2, 3, 3, 3, 3, 3, 3, 3, 3, 4, 4, 4, 4, 4, 4, 4, 4, 4, 4, 4, 5, 5, 5, 5, 5, 5, 5, 5, 5, 5, 5, 5, 5, 5] (fun _ w' => Below W0.heap.size W0 w') (by kernel_rfl) (by kernel_rfl) (⟨rfl, rfl, rfl, Nat.le_refl _, fun _ _ => rfl⟩) ?_ ?_
  · refine Obs_of_ends (by kernel_rfl) ?_
    intro A hEA
    refine ⟨?_, ?_, ?_, ?_, ?_, ?_, ?_, ?_, ?_, ?_, ?_, ?_, ?_, ?_, ?_, ?_, ?_, ?_, ?_, ?_, ?_, ?_, ?_, ?_, ?_, ?_, ?_, ?_, ?_, ?_, ?_, ?_, ?_, ?_, ?_, ?_, ?_, ?_, ?_, ?_, ?_, ?_, ?_, ?_, ?_, ?_, trivial⟩
    · refine ob_call (q := 0) (f := 8) (args := #[]) (want_none rfl) (by kernel_rfl) (fun w' => by simp [go_sem]) ?_
      intro w' hw
      refine (Calls.mono (R := fun e W' => e = .returned (.bool true) ∧ Below w'.heap.size w' W') (awake8_any w') ?_)
      rintro e w2 ⟨rfl, hb⟩
      exact ⟨rfl, hw.trans (hb.mono hw.size)⟩
    · exact ob_move _ rfl (want_none rfl) (by kernel_rfl) (eval_dst hEA (j := 0) rfl rfl)
    · refine ob_val (want_is hEA (g := 1) (x := true) (b := true) rfl rfl rfl rfl) (by kernel_rfl) (fun ph w' hp hpm hw => ?_)
      have hc0 := (hw.cell (p := ⟨w.heap.size, 0, none⟩) b0.lt).trans (b0.c 0 _ rfl)
      have hc1 := (hw.cell (p := ⟨w.heap.size, 1, none⟩) b0.lt).trans (b0.c 1 _ rfl)
      have e3 : A.tmps[3]? = some (.pointer (some ⟨w.heap.size, 0, none⟩)) := at_out hEA (d := 3) (by kernel_rfl); simp [execOp, e3, hc0, hc1, go_sem]
    · refine ob_val (want_is hEA (g := 1) (x := true) (b := true) rfl rfl rfl rfl) (by kernel_rfl) (fun ph w' hp hpm hw => ?_)
      have hc0 := (hw.cell (p := ⟨w.heap.size + 1, 0, none⟩) b1.lt).trans (b1.c 0 _ rfl)
      have hc1 := (hw.cell (p := ⟨w.heap.size + 1, 1, none⟩) b1.lt).trans (b1.c 1 _ rfl)
      have e4 : A.tmps[4]? = some (.pointer (some ⟨w.heap.size + 1, 0, none⟩)) := at_out hEA (d := 4) (by kernel_rfl); simp [execOp, e4, hc0, hc1, go_sem]
    · refine ob_val (want_is hEA (g := 1) (x := true) (b := true) rfl rfl rfl rfl) (by kernel_rfl) (fun ph w' hp hpm hw => ?_)
      have e9 : A.tmps[9]? = some (.agg #[.int .i64 a, .int .i64 b]) := hEA.dst 2 _ 9 rfl rfl; have e10 : A.tmps[10]? = some (.agg #[.int .i64 a, .int .i64 b]) := hEA.dst 3 _ 10 rfl rfl; simp [execOp, e9, e10, go_sem]
    · refine ob_val (want_is hEA (g := 1) (x := true) (b := true) rfl rfl rfl rfl) (by kernel_rfl) (fun ph w' hp hpm hw => ?_)
      have hc0 := (hw.cell (p := ⟨w.heap.size, 0, none⟩) b0.lt).trans (b0.c 0 _ rfl)
      have hc1 := (hw.cell (p := ⟨w.heap.size, 1, none⟩) b0.lt).trans (b0.c 1 _ rfl)
      have e3 : A.tmps[3]? = some (.pointer (some ⟨w.heap.size, 0, none⟩)) := at_out hEA (d := 3) (by kernel_rfl); simp [execOp, e3, hc0, hc1, go_sem]
    · refine ob_val (want_is hEA (g := 1) (x := true) (b := true) rfl rfl rfl rfl) (by kernel_rfl) (fun ph w' hp hpm hw => ?_)
      have hc0 := (hw.cell (p := ⟨w.heap.size + 1, 0, none⟩) b1.lt).trans (b1.c 0 _ rfl)
      have hc1 := (hw.cell (p := ⟨w.heap.size + 1, 1, none⟩) b1.lt).trans (b1.c 1 _ rfl)
      have e4 : A.tmps[4]? = some (.pointer (some ⟨w.heap.size + 1, 0, none⟩)) := at_out hEA (d := 4) (by kernel_rfl); simp [execOp, e4, hc0, hc1, go_sem]
    · refine ob_call (q := 1) (f := 9) (args := #[.agg #[.int .i64 a, .int .i64 b], .agg #[.int .i64 a, .int .i64 b]]) (want_is hEA (g := 1) (x := true) (b := true) rfl rfl rfl rfl) (by kernel_rfl) (fun w' => by have e12 : A.tmps[12]? = some (.agg #[.int .i64 a, .int .i64 b]) := hEA.dst 5 _ 12 rfl rfl; have e13 : A.tmps[13]? = some (.agg #[.int .i64 a, .int .i64 b]) := hEA.dst 6 _ 13 rfl rfl; simp [e12, e13, go_sem]) ?_
      intro w' hw
      refine (Calls.mono (R := fun e W' => e = .returned (.bool false) ∧ Below w'.heap.size w' W') (by have := less_any a b a b w'; rwa [hP] at this) ?_)
      rintro e w2 ⟨rfl, hb⟩
      exact ⟨rfl, hw.trans (hb.mono hw.size)⟩
    · refine ob_val (want_is hEA (g := 1) (x := true) (b := true) rfl rfl rfl rfl) (by kernel_rfl) (fun ph w' hp hpm hw => ?_)
      have e14 : A.tmps[14]? = some (.bool false) := hEA.dst 7 _ 14 rfl rfl; simp [execOp, e14, go_sem]
    · exact ob_move _ rfl (want_is hEA (g := 1) (x := true) (b := true) rfl rfl rfl rfl) (by kernel_rfl) (eval_dst hEA (j := 8) rfl rfl)
    · refine ob_val (want_is hEA (g := 9) (x := true) (b := true) rfl rfl rfl rfl) (by kernel_rfl) (fun ph w' hp hpm hw => ?_)
      have hc0 := (hw.cell (p := ⟨w.heap.size + 1, 0, none⟩) b1.lt).trans (b1.c 0 _ rfl)
      have hc1 := (hw.cell (p := ⟨w.heap.size + 1, 1, none⟩) b1.lt).trans (b1.c 1 _ rfl)
      have e4 : A.tmps[4]? = some (.pointer (some ⟨w.heap.size + 1, 0, none⟩)) := at_out hEA (d := 4) (by kernel_rfl); simp [execOp, e4, hc0, hc1, go_sem]
    · refine ob_val (want_is hEA (g := 9) (x := true) (b := true) rfl rfl rfl rfl) (by kernel_rfl) (fun ph w' hp hpm hw => ?_)
      have hc0 := (hw.cell (p := ⟨w.heap.size, 0, none⟩) b0.lt).trans (b0.c 0 _ rfl)
      have hc1 := (hw.cell (p := ⟨w.heap.size, 1, none⟩) b0.lt).trans (b0.c 1 _ rfl)
      have e3 : A.tmps[3]? = some (.pointer (some ⟨w.heap.size, 0, none⟩)) := at_out hEA (d := 3) (by kernel_rfl); simp [execOp, e3, hc0, hc1, go_sem]
    · refine ob_call (q := 2) (f := 9) (args := #[.agg #[.int .i64 a, .int .i64 b], .agg #[.int .i64 a, .int .i64 b]]) (want_is hEA (g := 9) (x := true) (b := true) rfl rfl rfl rfl) (by kernel_rfl) (fun w' => by have e17 : A.tmps[17]? = some (.agg #[.int .i64 a, .int .i64 b]) := hEA.dst 10 _ 17 rfl rfl; have e18 : A.tmps[18]? = some (.agg #[.int .i64 a, .int .i64 b]) := hEA.dst 11 _ 18 rfl rfl; simp [e17, e18, go_sem]) ?_
      intro w' hw
      refine (Calls.mono (R := fun e W' => e = .returned (.bool false) ∧ Below w'.heap.size w' W') (by have := less_any a b a b w'; rwa [hP] at this) ?_)
      rintro e w2 ⟨rfl, hb⟩
      exact ⟨rfl, hw.trans (hb.mono hw.size)⟩
    · refine ob_val (want_is hEA (g := 9) (x := true) (b := true) rfl rfl rfl rfl) (by kernel_rfl) (fun ph w' hp hpm hw => ?_)
      have e19 : A.tmps[19]? = some (.bool false) := hEA.dst 12 _ 19 rfl rfl; simp [execOp, e19, go_sem]
    · refine ob_val (want_is hEA (g := 1) (x := true) (b := true) rfl rfl rfl rfl) (by kernel_rfl) (fun ph w' hp hpm hw => ?_)
      have e16 : A.tmps[16]? = some (.bool true) := hEA.dst 9 _ 16 rfl rfl; have e20 : A.tmps[20]? = some (.bool true) := hEA.dst 13 _ 20 rfl rfl; simp [execOp, e16, e20, go_sem]
    · refine ob_val (want_is hEA (g := 1) (x := true) (b := true) rfl rfl rfl rfl) (by kernel_rfl) (fun ph w' hp hpm hw => ?_)
      have e11 : A.tmps[11]? = some (.bool true) := hEA.dst 4 _ 11 rfl rfl; have e21 : A.tmps[21]? = some (.bool true) := hEA.dst 14 _ 21 rfl rfl; simp [execOp, e11, e21, go_sem]
    · refine ob_val (want_none rfl) (by kernel_rfl) (fun ph w' hp hpm hw => ?_)
      have e8 : A.tmps[8]? = some (.bool true) := hEA.dst 1 _ 8 rfl rfl; have e22 : A.tmps[22]? = some (.bool true) := hEA.dst 15 _ 22 rfl rfl; simp [execOp, e8, e22, go_sem]
    · exact ob_move _ rfl (want_none rfl) (by kernel_rfl) (eval_dst hEA (j := 16) rfl rfl)
    · refine ob_val (want_is hEA (g := 17) (x := true) (b := true) rfl rfl rfl rfl) (by kernel_rfl) (fun ph w' hp hpm hw => ?_)
      have hc0 := (hw.cell (p := ⟨w.heap.size, 0, none⟩) b0.lt).trans (b0.c 0 _ rfl)
      have hc1 := (hw.cell (p := ⟨w.heap.size, 1, none⟩) b0.lt).trans (b0.c 1 _ rfl)
      have e3 : A.tmps[3]? = some (.pointer (some ⟨w.heap.size, 0, none⟩)) := at_out hEA (d := 3) (by kernel_rfl); simp [execOp, e3, hc0, hc1, go_sem]
    · refine ob_val (want_is hEA (g := 17) (x := true) (b := true) rfl rfl rfl rfl) (by kernel_rfl) (fun ph w' hp hpm hw => ?_)
      have hc0 := (hw.cell (p := ⟨w.heap.size + 1, 0, none⟩) b1.lt).trans (b1.c 0 _ rfl)
      have hc1 := (hw.cell (p := ⟨w.heap.size + 1, 1, none⟩) b1.lt).trans (b1.c 1 _ rfl)
      have e4 : A.tmps[4]? = some (.pointer (some ⟨w.heap.size + 1, 0, none⟩)) := at_out hEA (d := 4) (by kernel_rfl); simp [execOp, e4, hc0, hc1, go_sem]
    · refine ob_call (q := 3) (f := 9) (args := #[.agg #[.int .i64 a, .int .i64 b], .agg #[.int .i64 a, .int .i64 b]]) (want_is hEA (g := 17) (x := true) (b := true) rfl rfl rfl rfl) (by kernel_rfl) (fun w' => by have e25 : A.tmps[25]? = some (.agg #[.int .i64 a, .int .i64 b]) := hEA.dst 18 _ 25 rfl rfl; have e26 : A.tmps[26]? = some (.agg #[.int .i64 a, .int .i64 b]) := hEA.dst 19 _ 26 rfl rfl; simp [e25, e26, go_sem]) ?_
      intro w' hw
      refine (Calls.mono (R := fun e W' => e = .returned (.bool false) ∧ Below w'.heap.size w' W') (by have := less_any a b a b w'; rwa [hP] at this) ?_)
      rintro e w2 ⟨rfl, hb⟩
      exact ⟨rfl, hw.trans (hb.mono hw.size)⟩
    · exact ob_move _ rfl (want_is hEA (g := 17) (x := true) (b := true) rfl rfl rfl rfl) (by kernel_rfl) (eval_dst hEA (j := 20) rfl rfl)
    · exact ob_skip (want_is hEA (g := 21) (x := false) (b := true) rfl rfl rfl rfl) (by kernel_rfl) rfl
    · exact ob_skip (want_is hEA (g := 21) (x := false) (b := true) rfl rfl rfl rfl) (by kernel_rfl) rfl
    · exact ob_skip (want_is hEA (g := 21) (x := false) (b := true) rfl rfl rfl rfl) (by kernel_rfl) rfl
    · refine ob_val (want_is hEA (g := 17) (x := true) (b := true) rfl rfl rfl rfl) (by kernel_rfl) (fun ph w' hp hpm hw => ?_)
      have e28 : A.tmps[28]? = some (.bool false) := hEA.dst 21 _ 28 rfl rfl; have e31 : A.tmps[31]? = some (undef) := hEA.dst 24 _ 31 rfl rfl; simp [execOp, e28, e31, go_sem]
    · refine ob_val (want_is hEA (g := 17) (x := true) (b := true) rfl rfl rfl rfl) (by kernel_rfl) (fun ph w' hp hpm hw => ?_)
      have e32 : A.tmps[32]? = some (.bool false) := hEA.dst 25 _ 32 rfl rfl; simp [execOp, e32, go_sem]
    · refine ob_val (want_none rfl) (by kernel_rfl) (fun ph w' hp hpm hw => ?_)
      have e24 : A.tmps[24]? = some (.bool true) := hEA.dst 17 _ 24 rfl rfl; have e33 : A.tmps[33]? = some (.bool true) := hEA.dst 26 _ 33 rfl rfl; simp [execOp, e24, e33, go_sem]
    · exact ob_move _ rfl (want_none rfl) (by kernel_rfl) (eval_dst hEA (j := 27) rfl rfl)
    · refine ob_val (want_is hEA (g := 28) (x := true) (b := true) rfl rfl rfl rfl) (by kernel_rfl) (fun ph w' hp hpm hw => ?_)
      have hc0 := (hw.cell (p := ⟨w.heap.size, 0, none⟩) b0.lt).trans (b0.c 0 _ rfl)
      have hc1 := (hw.cell (p := ⟨w.heap.size, 1, none⟩) b0.lt).trans (b0.c 1 _ rfl)
      have e3 : A.tmps[3]? = some (.pointer (some ⟨w.heap.size, 0, none⟩)) := at_out hEA (d := 3) (by kernel_rfl); simp [execOp, e3, hc0, hc1, go_sem]
    · refine ob_val (want_is hEA (g := 28) (x := true) (b := true) rfl rfl rfl rfl) (by kernel_rfl) (fun ph w' hp hpm hw => ?_)
      have hc0 := (hw.cell (p := ⟨w.heap.size + 1, 0, none⟩) b1.lt).trans (b1.c 0 _ rfl)
      have hc1 := (hw.cell (p := ⟨w.heap.size + 1, 1, none⟩) b1.lt).trans (b1.c 1 _ rfl)
      have e4 : A.tmps[4]? = some (.pointer (some ⟨w.heap.size + 1, 0, none⟩)) := at_out hEA (d := 4) (by kernel_rfl); simp [execOp, e4, hc0, hc1, go_sem]
    · refine ob_call (q := 4) (f := 9) (args := #[.agg #[.int .i64 a, .int .i64 b], .agg #[.int .i64 a, .int .i64 b]]) (want_is hEA (g := 28) (x := true) (b := true) rfl rfl rfl rfl) (by kernel_rfl) (fun w' => by have e36 : A.tmps[36]? = some (.agg #[.int .i64 a, .int .i64 b]) := hEA.dst 29 _ 36 rfl rfl; have e37 : A.tmps[37]? = some (.agg #[.int .i64 a, .int .i64 b]) := hEA.dst 30 _ 37 rfl rfl; simp [e36, e37, go_sem]) ?_
      intro w' hw
      refine (Calls.mono (R := fun e W' => e = .returned (.bool false) ∧ Below w'.heap.size w' W') (by have := less_any a b a b w'; rwa [hP] at this) ?_)
      rintro e w2 ⟨rfl, hb⟩
      exact ⟨rfl, hw.trans (hb.mono hw.size)⟩
    · refine ob_val (want_is hEA (g := 28) (x := true) (b := true) rfl rfl rfl rfl) (by kernel_rfl) (fun ph w' hp hpm hw => ?_)
      have e38 : A.tmps[38]? = some (.bool false) := hEA.dst 31 _ 38 rfl rfl; simp [execOp, e38, go_sem]
    · exact ob_move _ rfl (want_is hEA (g := 28) (x := true) (b := true) rfl rfl rfl rfl) (by kernel_rfl) (eval_dst hEA (j := 32) rfl rfl)
    · exact ob_skip (want_is hEA (g := 33) (x := true) (b := false) rfl rfl rfl rfl) (by kernel_rfl) rfl
    · exact ob_skip (want_is hEA (g := 33) (x := true) (b := false) rfl rfl rfl rfl) (by kernel_rfl) rfl
    · exact ob_skip (want_is hEA (g := 33) (x := true) (b := false) rfl rfl rfl rfl) (by kernel_rfl) rfl
    · exact ob_skip (want_is hEA (g := 33) (x := true) (b := false) rfl rfl rfl rfl) (by kernel_rfl) rfl
    · refine ob_val (want_is hEA (g := 28) (x := true) (b := true) rfl rfl rfl rfl) (by kernel_rfl) (fun ph w' hp hpm hw => ?_)
      have e40 : A.tmps[40]? = some (.bool true) := hEA.dst 33 _ 40 rfl rfl; have e44 : A.tmps[44]? = some (undef) := hEA.dst 37 _ 44 rfl rfl; simp [execOp, e40, e44, go_sem]
    · exact ob_move _ rfl (want_is hEA (g := 28) (x := true) (b := true) rfl rfl rfl rfl) (by kernel_rfl) (eval_dst hEA (j := 38) rfl rfl)
    · exact ob_skip (want_is hEA (g := 39) (x := true) (b := false) rfl rfl rfl rfl) (by kernel_rfl) rfl
    · exact ob_skip (want_is hEA (g := 39) (x := true) (b := false) rfl rfl rfl rfl) (by kernel_rfl) rfl
    · exact ob_skip (want_is hEA (g := 39) (x := true) (b := false) rfl rfl rfl rfl) (by kernel_rfl) rfl
    · refine ob_val (want_is hEA (g := 28) (x := true) (b := true) rfl rfl rfl rfl) (by kernel_rfl) (fun ph w' hp hpm hw => ?_)
      have e46 : A.tmps[46]? = some (.bool true) := hEA.dst 39 _ 46 rfl rfl; have e49 : A.tmps[49]? = some (undef) := hEA.dst 42 _ 49 rfl rfl; simp [execOp, e46, e49, go_sem]
    · refine ob_val (want_none rfl) (by kernel_rfl) (fun ph w' hp hpm hw => ?_)
      have e35 : A.tmps[35]? = some (.bool true) := hEA.dst 28 _ 35 rfl rfl; have e50 : A.tmps[50]? = some (.bool true) := hEA.dst 43 _ 50 rfl rfl; simp [execOp, e35, e50, go_sem]
    · refine ob_val (want_none rfl) (by kernel_rfl) (fun ph w' hp hpm hw => ?_)
      have e51 : A.tmps[51]? = some (.bool true) := hEA.dst 44 _ 51 rfl rfl; simp [execOp, e51, go_sem]
  · intro w' hw
    simp only [laid, Act.put, List.setIfInBounds_toArray, List.set_cons_succ, List.set_cons_zero, List.getD_cons_succ, List.getD_cons_zero, Nat.zero_add, Nat.reduceAdd]
    go_wp2_with fail
    go_ret
    exact ⟨rfl, B.trans (hw.mono B.size)⟩

set_option maxRecDepth 100000 in
set_option maxHeartbeats 8000000 in
theorem memberOrder_after (a b c d e f : Int) (w : World) (hP : lessM a b c d = false) (hQ : lessM c d a b = true) (hE : a = c → ¬ b = d) :
    Calls Try.prog 6 #[vM a b, vM c d, vM e f] w fun e w' => e = .returned (.bool true) ∧ Below w.heap.size w w' := by
  go_enter Try.func6, Try.ntmps6
  go_wp2_with fail
  obtain ⟨W0, hW0, b0, b1, b2, B⟩ := new3 w [.int .i64 a, .int .i64 b] [.int .i64 c, .int .i64 d] [.int .i64 e, .int .i64 f] 24 24 24
  rw [hW0]
  clear hW0
  refine wp_region_plan (fun i => ([.bool true, .bool true, .agg #[.int .i64 a, .int .i64 b], .agg #[.int .i64 c, .int .i64 d], .bool false, .agg #[.int .i64 a, .int .i64 b], .agg #[.int .i64 c, .int .i64 d], .bool false, .bool true, .bool true, .agg #[.int .i64 c, .int .i64 d], .agg #[.int .i64 a, .int .i64 b], .bool true, .bool false, .bool false, .bool true, .bool true, .bool true, .agg #[.int .i64 a, .int .i64 b], .agg #[.int .i64 c, .int .i64 d], .bool false, .bool false, undef, undef, undef, .bool false, .bool true, .bool true, .bool true, .agg #[.int .i64 a, .int .i64 b], .agg #[.int .i64 c, .int .i64 d], .bool false, .bool true, .bool true, undef, undef, undef, undef, .bool true, .bool true, undef, undef, undef, .bool true, .bool true, .bool true] : List Value).getD i undef) [0, 7, 12, 20, 31] [0, 1, 1, 1, 1, 1, 1, 1, 2, 2, 2, 2, 2, 3, 3, 3, 3, 3, 3, 3, 3, 4, 4, 4, 4, 4, 4, 4, 4, 4, 4, 4, 5, 5, 5, 5, 5, 5, 5, 5, 5, 5, 5, 5, 5, 5] (fun _ w' => Below W0.heap.size W0 w') (by kernel_rfl) (by kernel_rfl) (⟨rfl, rfl, rfl, Nat.le_refl _, fun _ _ => rfl⟩) ?_ ?_
  · refine Obs_of_ends (by kernel_rfl) ?_
    intro A hEA
    refine ⟨?_, ?_, ?_, ?_, ?_, ?_, ?_, ?_, ?_, ?_, ?_, ?_, ?_, ?_, ?_, ?_, ?_, ?_, ?_, ?_, ?_, ?_, ?_, ?_, ?_, ?_, ?_, ?_, ?_, ?_, ?_, ?_, ?_, ?_, ?_, ?_, ?_, ?_, ?_, ?_, ?_, ?_, ?_, ?_, ?_, ?_, trivial⟩
    · refine ob_call (q := 0) (f := 8) (args := #[]) (want_none rfl) (by kernel_rfl) (fun w' => by simp [go_sem]) ?_
      intro w' hw
      refine (Calls.mono (R := fun e W' => e = .returned (.bool true) ∧ Below w'.heap.size w' W') (awake8_any w') ?_)
      rintro e w2 ⟨rfl, hb⟩
      exact ⟨rfl, hw.trans (hb.mono hw.size)⟩
    · exact ob_move _ rfl (want_none rfl) (by kernel_rfl) (eval_dst hEA (j := 0) rfl rfl)
    · refine ob_val (want_is hEA (g := 1) (x := true) (b := true) rfl rfl rfl rfl) (by kernel_rfl) (fun ph w' hp hpm hw => ?_)
      have hc0 := (hw.cell (p := ⟨w.heap.size, 0, none⟩) b0.lt).trans (b0.c 0 _ rfl)
      have hc1 := (hw.cell (p := ⟨w.heap.size, 1, none⟩) b0.lt).trans (b0.c 1 _ rfl)
      have e3 : A.tmps[3]? = some (.pointer (some ⟨w.heap.size, 0, none⟩)) := at_out hEA (d := 3) (by kernel_rfl); simp [execOp, e3, hc0, hc1, go_sem]
    · refine ob_val (want_is hEA (g := 1) (x := true) (b := true) rfl rfl rfl rfl) (by kernel_rfl) (fun ph w' hp hpm hw => ?_)
      have hc0 := (hw.cell (p := ⟨w.heap.size + 1, 0, none⟩) b1.lt).trans (b1.c 0 _ rfl)
      have hc1 := (hw.cell (p := ⟨w.heap.size + 1, 1, none⟩) b1.lt).trans (b1.c 1 _ rfl)
      have e4 : A.tmps[4]? = some (.pointer (some ⟨w.heap.size + 1, 0, none⟩)) := at_out hEA (d := 4) (by kernel_rfl); simp [execOp, e4, hc0, hc1, go_sem]
    · refine ob_val (want_is hEA (g := 1) (x := true) (b := true) rfl rfl rfl rfl) (by kernel_rfl) (fun ph w' hp hpm hw => ?_)
      have e9 : A.tmps[9]? = some (.agg #[.int .i64 a, .int .i64 b]) := hEA.dst 2 _ 9 rfl rfl; have e10 : A.tmps[10]? = some (.agg #[.int .i64 c, .int .i64 d]) := hEA.dst 3 _ 10 rfl rfl; simp [execOp, e9, e10, go_sem]; exact hE
    · refine ob_val (want_is hEA (g := 1) (x := true) (b := true) rfl rfl rfl rfl) (by kernel_rfl) (fun ph w' hp hpm hw => ?_)
      have hc0 := (hw.cell (p := ⟨w.heap.size, 0, none⟩) b0.lt).trans (b0.c 0 _ rfl)
      have hc1 := (hw.cell (p := ⟨w.heap.size, 1, none⟩) b0.lt).trans (b0.c 1 _ rfl)
      have e3 : A.tmps[3]? = some (.pointer (some ⟨w.heap.size, 0, none⟩)) := at_out hEA (d := 3) (by kernel_rfl); simp [execOp, e3, hc0, hc1, go_sem]
    · refine ob_val (want_is hEA (g := 1) (x := true) (b := true) rfl rfl rfl rfl) (by kernel_rfl) (fun ph w' hp hpm hw => ?_)
      have hc0 := (hw.cell (p := ⟨w.heap.size + 1, 0, none⟩) b1.lt).trans (b1.c 0 _ rfl)
      have hc1 := (hw.cell (p := ⟨w.heap.size + 1, 1, none⟩) b1.lt).trans (b1.c 1 _ rfl)
      have e4 : A.tmps[4]? = some (.pointer (some ⟨w.heap.size + 1, 0, none⟩)) := at_out hEA (d := 4) (by kernel_rfl); simp [execOp, e4, hc0, hc1, go_sem]
    · refine ob_call (q := 1) (f := 9) (args := #[.agg #[.int .i64 a, .int .i64 b], .agg #[.int .i64 c, .int .i64 d]]) (want_is hEA (g := 1) (x := true) (b := true) rfl rfl rfl rfl) (by kernel_rfl) (fun w' => by have e12 : A.tmps[12]? = some (.agg #[.int .i64 a, .int .i64 b]) := hEA.dst 5 _ 12 rfl rfl; have e13 : A.tmps[13]? = some (.agg #[.int .i64 c, .int .i64 d]) := hEA.dst 6 _ 13 rfl rfl; simp [e12, e13, go_sem]) ?_
      intro w' hw
      refine (Calls.mono (R := fun e W' => e = .returned (.bool false) ∧ Below w'.heap.size w' W') (by have := less_any a b c d w'; rwa [hP] at this) ?_)
      rintro e w2 ⟨rfl, hb⟩
      exact ⟨rfl, hw.trans (hb.mono hw.size)⟩
    · refine ob_val (want_is hEA (g := 1) (x := true) (b := true) rfl rfl rfl rfl) (by kernel_rfl) (fun ph w' hp hpm hw => ?_)
      have e14 : A.tmps[14]? = some (.bool false) := hEA.dst 7 _ 14 rfl rfl; simp [execOp, e14, go_sem]
    · exact ob_move _ rfl (want_is hEA (g := 1) (x := true) (b := true) rfl rfl rfl rfl) (by kernel_rfl) (eval_dst hEA (j := 8) rfl rfl)
    · refine ob_val (want_is hEA (g := 9) (x := true) (b := true) rfl rfl rfl rfl) (by kernel_rfl) (fun ph w' hp hpm hw => ?_)
      have hc0 := (hw.cell (p := ⟨w.heap.size + 1, 0, none⟩) b1.lt).trans (b1.c 0 _ rfl)
      have hc1 := (hw.cell (p := ⟨w.heap.size + 1, 1, none⟩) b1.lt).trans (b1.c 1 _ rfl)
      have e4 : A.tmps[4]? = some (.pointer (some ⟨w.heap.size + 1, 0, none⟩)) := at_out hEA (d := 4) (by kernel_rfl); simp [execOp, e4, hc0, hc1, go_sem]
    · refine ob_val (want_is hEA (g := 9) (x := true) (b := true) rfl rfl rfl rfl) (by kernel_rfl) (fun ph w' hp hpm hw => ?_)
      have hc0 := (hw.cell (p := ⟨w.heap.size, 0, none⟩) b0.lt).trans (b0.c 0 _ rfl)
      have hc1 := (hw.cell (p := ⟨w.heap.size, 1, none⟩) b0.lt).trans (b0.c 1 _ rfl)
      have e3 : A.tmps[3]? = some (.pointer (some ⟨w.heap.size, 0, none⟩)) := at_out hEA (d := 3) (by kernel_rfl); simp [execOp, e3, hc0, hc1, go_sem]
    · refine ob_call (q := 2) (f := 9) (args := #[.agg #[.int .i64 c, .int .i64 d], .agg #[.int .i64 a, .int .i64 b]]) (want_is hEA (g := 9) (x := true) (b := true) rfl rfl rfl rfl) (by kernel_rfl) (fun w' => by have e17 : A.tmps[17]? = some (.agg #[.int .i64 c, .int .i64 d]) := hEA.dst 10 _ 17 rfl rfl; have e18 : A.tmps[18]? = some (.agg #[.int .i64 a, .int .i64 b]) := hEA.dst 11 _ 18 rfl rfl; simp [e17, e18, go_sem]) ?_
      intro w' hw
      refine (Calls.mono (R := fun e W' => e = .returned (.bool true) ∧ Below w'.heap.size w' W') (by have := less_any c d a b w'; rwa [hQ] at this) ?_)
      rintro e w2 ⟨rfl, hb⟩
      exact ⟨rfl, hw.trans (hb.mono hw.size)⟩
    · refine ob_val (want_is hEA (g := 9) (x := true) (b := true) rfl rfl rfl rfl) (by kernel_rfl) (fun ph w' hp hpm hw => ?_)
      have e19 : A.tmps[19]? = some (.bool true) := hEA.dst 12 _ 19 rfl rfl; simp [execOp, e19, go_sem]
    · refine ob_val (want_is hEA (g := 1) (x := true) (b := true) rfl rfl rfl rfl) (by kernel_rfl) (fun ph w' hp hpm hw => ?_)
      have e16 : A.tmps[16]? = some (.bool true) := hEA.dst 9 _ 16 rfl rfl; have e20 : A.tmps[20]? = some (.bool false) := hEA.dst 13 _ 20 rfl rfl; simp [execOp, e16, e20, go_sem]
    · refine ob_val (want_is hEA (g := 1) (x := true) (b := true) rfl rfl rfl rfl) (by kernel_rfl) (fun ph w' hp hpm hw => ?_)
      have e11 : A.tmps[11]? = some (.bool false) := hEA.dst 4 _ 11 rfl rfl; have e21 : A.tmps[21]? = some (.bool false) := hEA.dst 14 _ 21 rfl rfl; simp [execOp, e11, e21, go_sem]
    · refine ob_val (want_none rfl) (by kernel_rfl) (fun ph w' hp hpm hw => ?_)
      have e8 : A.tmps[8]? = some (.bool true) := hEA.dst 1 _ 8 rfl rfl; have e22 : A.tmps[22]? = some (.bool true) := hEA.dst 15 _ 22 rfl rfl; simp [execOp, e8, e22, go_sem]
    · exact ob_move _ rfl (want_none rfl) (by kernel_rfl) (eval_dst hEA (j := 16) rfl rfl)
    · refine ob_val (want_is hEA (g := 17) (x := true) (b := true) rfl rfl rfl rfl) (by kernel_rfl) (fun ph w' hp hpm hw => ?_)
      have hc0 := (hw.cell (p := ⟨w.heap.size, 0, none⟩) b0.lt).trans (b0.c 0 _ rfl)
      have hc1 := (hw.cell (p := ⟨w.heap.size, 1, none⟩) b0.lt).trans (b0.c 1 _ rfl)
      have e3 : A.tmps[3]? = some (.pointer (some ⟨w.heap.size, 0, none⟩)) := at_out hEA (d := 3) (by kernel_rfl); simp [execOp, e3, hc0, hc1, go_sem]
    · refine ob_val (want_is hEA (g := 17) (x := true) (b := true) rfl rfl rfl rfl) (by kernel_rfl) (fun ph w' hp hpm hw => ?_)
      have hc0 := (hw.cell (p := ⟨w.heap.size + 1, 0, none⟩) b1.lt).trans (b1.c 0 _ rfl)
      have hc1 := (hw.cell (p := ⟨w.heap.size + 1, 1, none⟩) b1.lt).trans (b1.c 1 _ rfl)
      have e4 : A.tmps[4]? = some (.pointer (some ⟨w.heap.size + 1, 0, none⟩)) := at_out hEA (d := 4) (by kernel_rfl); simp [execOp, e4, hc0, hc1, go_sem]
    · refine ob_call (q := 3) (f := 9) (args := #[.agg #[.int .i64 a, .int .i64 b], .agg #[.int .i64 c, .int .i64 d]]) (want_is hEA (g := 17) (x := true) (b := true) rfl rfl rfl rfl) (by kernel_rfl) (fun w' => by have e25 : A.tmps[25]? = some (.agg #[.int .i64 a, .int .i64 b]) := hEA.dst 18 _ 25 rfl rfl; have e26 : A.tmps[26]? = some (.agg #[.int .i64 c, .int .i64 d]) := hEA.dst 19 _ 26 rfl rfl; simp [e25, e26, go_sem]) ?_
      intro w' hw
      refine (Calls.mono (R := fun e W' => e = .returned (.bool false) ∧ Below w'.heap.size w' W') (by have := less_any a b c d w'; rwa [hP] at this) ?_)
      rintro e w2 ⟨rfl, hb⟩
      exact ⟨rfl, hw.trans (hb.mono hw.size)⟩
    · exact ob_move _ rfl (want_is hEA (g := 17) (x := true) (b := true) rfl rfl rfl rfl) (by kernel_rfl) (eval_dst hEA (j := 20) rfl rfl)
    · exact ob_skip (want_is hEA (g := 21) (x := false) (b := true) rfl rfl rfl rfl) (by kernel_rfl) rfl
    · exact ob_skip (want_is hEA (g := 21) (x := false) (b := true) rfl rfl rfl rfl) (by kernel_rfl) rfl
    · exact ob_skip (want_is hEA (g := 21) (x := false) (b := true) rfl rfl rfl rfl) (by kernel_rfl) rfl
    · refine ob_val (want_is hEA (g := 17) (x := true) (b := true) rfl rfl rfl rfl) (by kernel_rfl) (fun ph w' hp hpm hw => ?_)
      have e28 : A.tmps[28]? = some (.bool false) := hEA.dst 21 _ 28 rfl rfl; have e31 : A.tmps[31]? = some (undef) := hEA.dst 24 _ 31 rfl rfl; simp [execOp, e28, e31, go_sem]
    · refine ob_val (want_is hEA (g := 17) (x := true) (b := true) rfl rfl rfl rfl) (by kernel_rfl) (fun ph w' hp hpm hw => ?_)
      have e32 : A.tmps[32]? = some (.bool false) := hEA.dst 25 _ 32 rfl rfl; simp [execOp, e32, go_sem]
    · refine ob_val (want_none rfl) (by kernel_rfl) (fun ph w' hp hpm hw => ?_)
      have e24 : A.tmps[24]? = some (.bool true) := hEA.dst 17 _ 24 rfl rfl; have e33 : A.tmps[33]? = some (.bool true) := hEA.dst 26 _ 33 rfl rfl; simp [execOp, e24, e33, go_sem]
    · exact ob_move _ rfl (want_none rfl) (by kernel_rfl) (eval_dst hEA (j := 27) rfl rfl)
    · refine ob_val (want_is hEA (g := 28) (x := true) (b := true) rfl rfl rfl rfl) (by kernel_rfl) (fun ph w' hp hpm hw => ?_)
      have hc0 := (hw.cell (p := ⟨w.heap.size, 0, none⟩) b0.lt).trans (b0.c 0 _ rfl)
      have hc1 := (hw.cell (p := ⟨w.heap.size, 1, none⟩) b0.lt).trans (b0.c 1 _ rfl)
      have e3 : A.tmps[3]? = some (.pointer (some ⟨w.heap.size, 0, none⟩)) := at_out hEA (d := 3) (by kernel_rfl); simp [execOp, e3, hc0, hc1, go_sem]
    · refine ob_val (want_is hEA (g := 28) (x := true) (b := true) rfl rfl rfl rfl) (by kernel_rfl) (fun ph w' hp hpm hw => ?_)
      have hc0 := (hw.cell (p := ⟨w.heap.size + 1, 0, none⟩) b1.lt).trans (b1.c 0 _ rfl)
      have hc1 := (hw.cell (p := ⟨w.heap.size + 1, 1, none⟩) b1.lt).trans (b1.c 1 _ rfl)
      have e4 : A.tmps[4]? = some (.pointer (some ⟨w.heap.size + 1, 0, none⟩)) := at_out hEA (d := 4) (by kernel_rfl); simp [execOp, e4, hc0, hc1, go_sem]
    · refine ob_call (q := 4) (f := 9) (args := #[.agg #[.int .i64 a, .int .i64 b], .agg #[.int .i64 c, .int .i64 d]]) (want_is hEA (g := 28) (x := true) (b := true) rfl rfl rfl rfl) (by kernel_rfl) (fun w' => by have e36 : A.tmps[36]? = some (.agg #[.int .i64 a, .int .i64 b]) := hEA.dst 29 _ 36 rfl rfl; have e37 : A.tmps[37]? = some (.agg #[.int .i64 c, .int .i64 d]) := hEA.dst 30 _ 37 rfl rfl; simp [e36, e37, go_sem]) ?_
      intro w' hw
      refine (Calls.mono (R := fun e W' => e = .returned (.bool false) ∧ Below w'.heap.size w' W') (by have := less_any a b c d w'; rwa [hP] at this) ?_)
      rintro e w2 ⟨rfl, hb⟩
      exact ⟨rfl, hw.trans (hb.mono hw.size)⟩
    · refine ob_val (want_is hEA (g := 28) (x := true) (b := true) rfl rfl rfl rfl) (by kernel_rfl) (fun ph w' hp hpm hw => ?_)
      have e38 : A.tmps[38]? = some (.bool false) := hEA.dst 31 _ 38 rfl rfl; simp [execOp, e38, go_sem]
    · exact ob_move _ rfl (want_is hEA (g := 28) (x := true) (b := true) rfl rfl rfl rfl) (by kernel_rfl) (eval_dst hEA (j := 32) rfl rfl)
    · exact ob_skip (want_is hEA (g := 33) (x := true) (b := false) rfl rfl rfl rfl) (by kernel_rfl) rfl
    · exact ob_skip (want_is hEA (g := 33) (x := true) (b := false) rfl rfl rfl rfl) (by kernel_rfl) rfl
    · exact ob_skip (want_is hEA (g := 33) (x := true) (b := false) rfl rfl rfl rfl) (by kernel_rfl) rfl
    · exact ob_skip (want_is hEA (g := 33) (x := true) (b := false) rfl rfl rfl rfl) (by kernel_rfl) rfl
    · refine ob_val (want_is hEA (g := 28) (x := true) (b := true) rfl rfl rfl rfl) (by kernel_rfl) (fun ph w' hp hpm hw => ?_)
      have e40 : A.tmps[40]? = some (.bool true) := hEA.dst 33 _ 40 rfl rfl; have e44 : A.tmps[44]? = some (undef) := hEA.dst 37 _ 44 rfl rfl; simp [execOp, e40, e44, go_sem]
    · exact ob_move _ rfl (want_is hEA (g := 28) (x := true) (b := true) rfl rfl rfl rfl) (by kernel_rfl) (eval_dst hEA (j := 38) rfl rfl)
    · exact ob_skip (want_is hEA (g := 39) (x := true) (b := false) rfl rfl rfl rfl) (by kernel_rfl) rfl
    · exact ob_skip (want_is hEA (g := 39) (x := true) (b := false) rfl rfl rfl rfl) (by kernel_rfl) rfl
    · exact ob_skip (want_is hEA (g := 39) (x := true) (b := false) rfl rfl rfl rfl) (by kernel_rfl) rfl
    · refine ob_val (want_is hEA (g := 28) (x := true) (b := true) rfl rfl rfl rfl) (by kernel_rfl) (fun ph w' hp hpm hw => ?_)
      have e46 : A.tmps[46]? = some (.bool true) := hEA.dst 39 _ 46 rfl rfl; have e49 : A.tmps[49]? = some (undef) := hEA.dst 42 _ 49 rfl rfl; simp [execOp, e46, e49, go_sem]
    · refine ob_val (want_none rfl) (by kernel_rfl) (fun ph w' hp hpm hw => ?_)
      have e35 : A.tmps[35]? = some (.bool true) := hEA.dst 28 _ 35 rfl rfl; have e50 : A.tmps[50]? = some (.bool true) := hEA.dst 43 _ 50 rfl rfl; simp [execOp, e35, e50, go_sem]
    · refine ob_val (want_none rfl) (by kernel_rfl) (fun ph w' hp hpm hw => ?_)
      have e51 : A.tmps[51]? = some (.bool true) := hEA.dst 44 _ 51 rfl rfl; simp [execOp, e51, go_sem]
  · intro w' hw
    simp only [laid, Act.put, List.setIfInBounds_toArray, List.set_cons_succ, List.set_cons_zero, List.getD_cons_succ, List.getD_cons_zero, Nat.zero_add, Nat.reduceAdd]
    go_wp2_with fail
    go_ret
    exact ⟨rfl, B.trans (hw.mono B.size)⟩

set_option maxRecDepth 100000 in
set_option maxHeartbeats 8000000 in
theorem memberOrder_far (a b c d e f : Int) (w : World) (hP : lessM a b c d = true) (hQ : lessM c d a b = false) (hE : a = c → ¬ b = d) (hR : lessM c d e f = false) :
    Calls Try.prog 6 #[vM a b, vM c d, vM e f] w fun e w' => e = .returned (.bool true) ∧ Below w.heap.size w w' := by
  go_enter Try.func6, Try.ntmps6
  go_wp2_with fail
  obtain ⟨W0, hW0, b0, b1, b2, B⟩ := new3 w [.int .i64 a, .int .i64 b] [.int .i64 c, .int .i64 d] [.int .i64 e, .int .i64 f] 24 24 24
  rw [hW0]
  clear hW0
  refine wp_region_plan (fun i => ([.bool true, .bool true, .agg #[.int .i64 a, .int .i64 b], .agg #[.int .i64 c, .int .i64 d], .bool false, .agg #[.int .i64 a, .int .i64 b], .agg #[.int .i64 c, .int .i64 d], .bool true, .bool false, .bool false, undef, undef, undef, undef, .bool false, .bool true, .bool true, .bool true, .agg #[.int .i64 a, .int .i64 b], .agg #[.int .i64 c, .int .i64 d], .bool true, .bool true, .agg #[.int .i64 c, .int .i64 d], .agg #[.int .i64 a, .int .i64 b], .bool false, .bool false, .bool true, .bool true, .bool true, .agg #[.int .i64 a, .int .i64 b], .agg #[.int .i64 c, .int .i64 d], .bool true, .bool false, .bool false, .agg #[.int .i64 c, .int .i64 d], .agg #[.int .i64 e, .int .i64 f], .bool false, .bool true, .bool true, .bool true, undef, undef, undef, .bool true, .bool true, .bool true] : List Value).getD i undef) [0, 7, 20, 24, 31, 36] [0, 1, 1, 1, 1, 1, 1, 1, 2, 2, 2, 2, 2, 2, 2, 2, 2, 2, 2, 2, 2, 3, 3, 3, 3, 4, 4, 4, 4, 4, 4, 4, 5, 5, 5, 5, 5, 6, 6, 6, 6, 6, 6, 6, 6, 6] (fun _ w' => Below W0.heap.size W0 w') (by kernel_rfl) (by kernel_rfl) (⟨rfl, rfl, rfl, Nat.le_refl _, fun _ _ => rfl⟩) ?_ ?_
  · refine Obs_of_ends (by kernel_rfl) ?_
    intro A hEA
    refine ⟨?_, ?_, ?_, ?_, ?_, ?_, ?_, ?_, ?_, ?_, ?_, ?_, ?_, ?_, ?_, ?_, ?_, ?_, ?_, ?_, ?_, ?_, ?_, ?_, ?_, ?_, ?_, ?_, ?_, ?_, ?_, ?_, ?_, ?_, ?_, ?_, ?_, ?_, ?_, ?_, ?_, ?_, ?_, ?_, ?_, ?_, trivial⟩
    · refine ob_call (q := 0) (f := 8) (args := #[]) (want_none rfl) (by kernel_rfl) (fun w' => by simp [go_sem]) ?_
      intro w' hw
      refine (Calls.mono (R := fun e W' => e = .returned (.bool true) ∧ Below w'.heap.size w' W') (awake8_any w') ?_)
      rintro e w2 ⟨rfl, hb⟩
      exact ⟨rfl, hw.trans (hb.mono hw.size)⟩
    · exact ob_move _ rfl (want_none rfl) (by kernel_rfl) (eval_dst hEA (j := 0) rfl rfl)
    · refine ob_val (want_is hEA (g := 1) (x := true) (b := true) rfl rfl rfl rfl) (by kernel_rfl) (fun ph w' hp hpm hw => ?_)
      have hc0 := (hw.cell (p := ⟨w.heap.size, 0, none⟩) b0.lt).trans (b0.c 0 _ rfl)
      have hc1 := (hw.cell (p := ⟨w.heap.size, 1, none⟩) b0.lt).trans (b0.c 1 _ rfl)
      have e3 : A.tmps[3]? = some (.pointer (some ⟨w.heap.size, 0, none⟩)) := at_out hEA (d := 3) (by kernel_rfl); simp [execOp, e3, hc0, hc1, go_sem]
    · refine ob_val (want_is hEA (g := 1) (x := true) (b := true) rfl rfl rfl rfl) (by kernel_rfl) (fun ph w' hp hpm hw => ?_)
      have hc0 := (hw.cell (p := ⟨w.heap.size + 1, 0, none⟩) b1.lt).trans (b1.c 0 _ rfl)
      have hc1 := (hw.cell (p := ⟨w.heap.size + 1, 1, none⟩) b1.lt).trans (b1.c 1 _ rfl)
      have e4 : A.tmps[4]? = some (.pointer (some ⟨w.heap.size + 1, 0, none⟩)) := at_out hEA (d := 4) (by kernel_rfl); simp [execOp, e4, hc0, hc1, go_sem]
    · refine ob_val (want_is hEA (g := 1) (x := true) (b := true) rfl rfl rfl rfl) (by kernel_rfl) (fun ph w' hp hpm hw => ?_)
      have e9 : A.tmps[9]? = some (.agg #[.int .i64 a, .int .i64 b]) := hEA.dst 2 _ 9 rfl rfl; have e10 : A.tmps[10]? = some (.agg #[.int .i64 c, .int .i64 d]) := hEA.dst 3 _ 10 rfl rfl; simp [execOp, e9, e10, go_sem]; exact hE
    · refine ob_val (want_is hEA (g := 1) (x := true) (b := true) rfl rfl rfl rfl) (by kernel_rfl) (fun ph w' hp hpm hw => ?_)
      have hc0 := (hw.cell (p := ⟨w.heap.size, 0, none⟩) b0.lt).trans (b0.c 0 _ rfl)
      have hc1 := (hw.cell (p := ⟨w.heap.size, 1, none⟩) b0.lt).trans (b0.c 1 _ rfl)
      have e3 : A.tmps[3]? = some (.pointer (some ⟨w.heap.size, 0, none⟩)) := at_out hEA (d := 3) (by kernel_rfl); simp [execOp, e3, hc0, hc1, go_sem]
    · refine ob_val (want_is hEA (g := 1) (x := true) (b := true) rfl rfl rfl rfl) (by kernel_rfl) (fun ph w' hp hpm hw => ?_)
      have hc0 := (hw.cell (p := ⟨w.heap.size + 1, 0, none⟩) b1.lt).trans (b1.c 0 _ rfl)
      have hc1 := (hw.cell (p := ⟨w.heap.size + 1, 1, none⟩) b1.lt).trans (b1.c 1 _ rfl)
      have e4 : A.tmps[4]? = some (.pointer (some ⟨w.heap.size + 1, 0, none⟩)) := at_out hEA (d := 4) (by kernel_rfl); simp [execOp, e4, hc0, hc1, go_sem]
    · refine ob_call (q := 1) (f := 9) (args := #[.agg #[.int .i64 a, .int .i64 b], .agg #[.int .i64 c, .int .i64 d]]) (want_is hEA (g := 1) (x := true) (b := true) rfl rfl rfl rfl) (by kernel_rfl) (fun w' => by have e12 : A.tmps[12]? = some (.agg #[.int .i64 a, .int .i64 b]) := hEA.dst 5 _ 12 rfl rfl; have e13 : A.tmps[13]? = some (.agg #[.int .i64 c, .int .i64 d]) := hEA.dst 6 _ 13 rfl rfl; simp [e12, e13, go_sem]) ?_
      intro w' hw
      refine (Calls.mono (R := fun e W' => e = .returned (.bool true) ∧ Below w'.heap.size w' W') (by have := less_any a b c d w'; rwa [hP] at this) ?_)
      rintro e w2 ⟨rfl, hb⟩
      exact ⟨rfl, hw.trans (hb.mono hw.size)⟩
    · refine ob_val (want_is hEA (g := 1) (x := true) (b := true) rfl rfl rfl rfl) (by kernel_rfl) (fun ph w' hp hpm hw => ?_)
      have e14 : A.tmps[14]? = some (.bool true) := hEA.dst 7 _ 14 rfl rfl; simp [execOp, e14, go_sem]
    · exact ob_move _ rfl (want_is hEA (g := 1) (x := true) (b := true) rfl rfl rfl rfl) (by kernel_rfl) (eval_dst hEA (j := 8) rfl rfl)
    · exact ob_skip (want_is hEA (g := 9) (x := false) (b := true) rfl rfl rfl rfl) (by kernel_rfl) rfl
    · exact ob_skip (want_is hEA (g := 9) (x := false) (b := true) rfl rfl rfl rfl) (by kernel_rfl) rfl
    · exact ob_skip (want_is hEA (g := 9) (x := false) (b := true) rfl rfl rfl rfl) (by kernel_rfl) rfl
    · exact ob_skip (want_is hEA (g := 9) (x := false) (b := true) rfl rfl rfl rfl) (by kernel_rfl) rfl
    · refine ob_val (want_is hEA (g := 1) (x := true) (b := true) rfl rfl rfl rfl) (by kernel_rfl) (fun ph w' hp hpm hw => ?_)
      have e16 : A.tmps[16]? = some (.bool false) := hEA.dst 9 _ 16 rfl rfl; have e20 : A.tmps[20]? = some (undef) := hEA.dst 13 _ 20 rfl rfl; simp [execOp, e16, e20, go_sem]
    · refine ob_val (want_is hEA (g := 1) (x := true) (b := true) rfl rfl rfl rfl) (by kernel_rfl) (fun ph w' hp hpm hw => ?_)
      have e11 : A.tmps[11]? = some (.bool false) := hEA.dst 4 _ 11 rfl rfl; have e21 : A.tmps[21]? = some (.bool false) := hEA.dst 14 _ 21 rfl rfl; simp [execOp, e11, e21, go_sem]
    · refine ob_val (want_none rfl) (by kernel_rfl) (fun ph w' hp hpm hw => ?_)
      have e8 : A.tmps[8]? = some (.bool true) := hEA.dst 1 _ 8 rfl rfl; have e22 : A.tmps[22]? = some (.bool true) := hEA.dst 15 _ 22 rfl rfl; simp [execOp, e8, e22, go_sem]
    · exact ob_move _ rfl (want_none rfl) (by kernel_rfl) (eval_dst hEA (j := 16) rfl rfl)
    · refine ob_val (want_is hEA (g := 17) (x := true) (b := true) rfl rfl rfl rfl) (by kernel_rfl) (fun ph w' hp hpm hw => ?_)
      have hc0 := (hw.cell (p := ⟨w.heap.size, 0, none⟩) b0.lt).trans (b0.c 0 _ rfl)
      have hc1 := (hw.cell (p := ⟨w.heap.size, 1, none⟩) b0.lt).trans (b0.c 1 _ rfl)
      have e3 : A.tmps[3]? = some (.pointer (some ⟨w.heap.size, 0, none⟩)) := at_out hEA (d := 3) (by kernel_rfl); simp [execOp, e3, hc0, hc1, go_sem]
    · refine ob_val (want_is hEA (g := 17) (x := true) (b := true) rfl rfl rfl rfl) (by kernel_rfl) (fun ph w' hp hpm hw => ?_)
      have hc0 := (hw.cell (p := ⟨w.heap.size + 1, 0, none⟩) b1.lt).trans (b1.c 0 _ rfl)
      have hc1 := (hw.cell (p := ⟨w.heap.size + 1, 1, none⟩) b1.lt).trans (b1.c 1 _ rfl)
      have e4 : A.tmps[4]? = some (.pointer (some ⟨w.heap.size + 1, 0, none⟩)) := at_out hEA (d := 4) (by kernel_rfl); simp [execOp, e4, hc0, hc1, go_sem]
    · refine ob_call (q := 2) (f := 9) (args := #[.agg #[.int .i64 a, .int .i64 b], .agg #[.int .i64 c, .int .i64 d]]) (want_is hEA (g := 17) (x := true) (b := true) rfl rfl rfl rfl) (by kernel_rfl) (fun w' => by have e25 : A.tmps[25]? = some (.agg #[.int .i64 a, .int .i64 b]) := hEA.dst 18 _ 25 rfl rfl; have e26 : A.tmps[26]? = some (.agg #[.int .i64 c, .int .i64 d]) := hEA.dst 19 _ 26 rfl rfl; simp [e25, e26, go_sem]) ?_
      intro w' hw
      refine (Calls.mono (R := fun e W' => e = .returned (.bool true) ∧ Below w'.heap.size w' W') (by have := less_any a b c d w'; rwa [hP] at this) ?_)
      rintro e w2 ⟨rfl, hb⟩
      exact ⟨rfl, hw.trans (hb.mono hw.size)⟩
    · exact ob_move _ rfl (want_is hEA (g := 17) (x := true) (b := true) rfl rfl rfl rfl) (by kernel_rfl) (eval_dst hEA (j := 20) rfl rfl)
    · refine ob_val (want_is hEA (g := 21) (x := true) (b := true) rfl rfl rfl rfl) (by kernel_rfl) (fun ph w' hp hpm hw => ?_)
      have hc0 := (hw.cell (p := ⟨w.heap.size + 1, 0, none⟩) b1.lt).trans (b1.c 0 _ rfl)
      have hc1 := (hw.cell (p := ⟨w.heap.size + 1, 1, none⟩) b1.lt).trans (b1.c 1 _ rfl)
      have e4 : A.tmps[4]? = some (.pointer (some ⟨w.heap.size + 1, 0, none⟩)) := at_out hEA (d := 4) (by kernel_rfl); simp [execOp, e4, hc0, hc1, go_sem]
    · refine ob_val (want_is hEA (g := 21) (x := true) (b := true) rfl rfl rfl rfl) (by kernel_rfl) (fun ph w' hp hpm hw => ?_)
      have hc0 := (hw.cell (p := ⟨w.heap.size, 0, none⟩) b0.lt).trans (b0.c 0 _ rfl)
      have hc1 := (hw.cell (p := ⟨w.heap.size, 1, none⟩) b0.lt).trans (b0.c 1 _ rfl)
      have e3 : A.tmps[3]? = some (.pointer (some ⟨w.heap.size, 0, none⟩)) := at_out hEA (d := 3) (by kernel_rfl); simp [execOp, e3, hc0, hc1, go_sem]
    · refine ob_call (q := 3) (f := 9) (args := #[.agg #[.int .i64 c, .int .i64 d], .agg #[.int .i64 a, .int .i64 b]]) (want_is hEA (g := 21) (x := true) (b := true) rfl rfl rfl rfl) (by kernel_rfl) (fun w' => by have e29 : A.tmps[29]? = some (.agg #[.int .i64 c, .int .i64 d]) := hEA.dst 22 _ 29 rfl rfl; have e30 : A.tmps[30]? = some (.agg #[.int .i64 a, .int .i64 b]) := hEA.dst 23 _ 30 rfl rfl; simp [e29, e30, go_sem]) ?_
      intro w' hw
      refine (Calls.mono (R := fun e W' => e = .returned (.bool false) ∧ Below w'.heap.size w' W') (by have := less_any c d a b w'; rwa [hQ] at this) ?_)
      rintro e w2 ⟨rfl, hb⟩
      exact ⟨rfl, hw.trans (hb.mono hw.size)⟩
    · refine ob_val (want_is hEA (g := 17) (x := true) (b := true) rfl rfl rfl rfl) (by kernel_rfl) (fun ph w' hp hpm hw => ?_)
      have e28 : A.tmps[28]? = some (.bool true) := hEA.dst 21 _ 28 rfl rfl; have e31 : A.tmps[31]? = some (.bool false) := hEA.dst 24 _ 31 rfl rfl; simp [execOp, e28, e31, go_sem]
    · refine ob_val (want_is hEA (g := 17) (x := true) (b := true) rfl rfl rfl rfl) (by kernel_rfl) (fun ph w' hp hpm hw => ?_)
      have e32 : A.tmps[32]? = some (.bool false) := hEA.dst 25 _ 32 rfl rfl; simp [execOp, e32, go_sem]
    · refine ob_val (want_none rfl) (by kernel_rfl) (fun ph w' hp hpm hw => ?_)
      have e24 : A.tmps[24]? = some (.bool true) := hEA.dst 17 _ 24 rfl rfl; have e33 : A.tmps[33]? = some (.bool true) := hEA.dst 26 _ 33 rfl rfl; simp [execOp, e24, e33, go_sem]
    · exact ob_move _ rfl (want_none rfl) (by kernel_rfl) (eval_dst hEA (j := 27) rfl rfl)
    · refine ob_val (want_is hEA (g := 28) (x := true) (b := true) rfl rfl rfl rfl) (by kernel_rfl) (fun ph w' hp hpm hw => ?_)
      have hc0 := (hw.cell (p := ⟨w.heap.size, 0, none⟩) b0.lt).trans (b0.c 0 _ rfl)
      have hc1 := (hw.cell (p := ⟨w.heap.size, 1, none⟩) b0.lt).trans (b0.c 1 _ rfl)
      have e3 : A.tmps[3]? = some (.pointer (some ⟨w.heap.size, 0, none⟩)) := at_out hEA (d := 3) (by kernel_rfl); simp [execOp, e3, hc0, hc1, go_sem]
    · refine ob_val (want_is hEA (g := 28) (x := true) (b := true) rfl rfl rfl rfl) (by kernel_rfl) (fun ph w' hp hpm hw => ?_)
      have hc0 := (hw.cell (p := ⟨w.heap.size + 1, 0, none⟩) b1.lt).trans (b1.c 0 _ rfl)
      have hc1 := (hw.cell (p := ⟨w.heap.size + 1, 1, none⟩) b1.lt).trans (b1.c 1 _ rfl)
      have e4 : A.tmps[4]? = some (.pointer (some ⟨w.heap.size + 1, 0, none⟩)) := at_out hEA (d := 4) (by kernel_rfl); simp [execOp, e4, hc0, hc1, go_sem]
    · refine ob_call (q := 4) (f := 9) (args := #[.agg #[.int .i64 a, .int .i64 b], .agg #[.int .i64 c, .int .i64 d]]) (want_is hEA (g := 28) (x := true) (b := true) rfl rfl rfl rfl) (by kernel_rfl) (fun w' => by have e36 : A.tmps[36]? = some (.agg #[.int .i64 a, .int .i64 b]) := hEA.dst 29 _ 36 rfl rfl; have e37 : A.tmps[37]? = some (.agg #[.int .i64 c, .int .i64 d]) := hEA.dst 30 _ 37 rfl rfl; simp [e36, e37, go_sem]) ?_
      intro w' hw
      refine (Calls.mono (R := fun e W' => e = .returned (.bool true) ∧ Below w'.heap.size w' W') (by have := less_any a b c d w'; rwa [hP] at this) ?_)
      rintro e w2 ⟨rfl, hb⟩
      exact ⟨rfl, hw.trans (hb.mono hw.size)⟩
    · refine ob_val (want_is hEA (g := 28) (x := true) (b := true) rfl rfl rfl rfl) (by kernel_rfl) (fun ph w' hp hpm hw => ?_)
      have e38 : A.tmps[38]? = some (.bool true) := hEA.dst 31 _ 38 rfl rfl; simp [execOp, e38, go_sem]
    · exact ob_move _ rfl (want_is hEA (g := 28) (x := true) (b := true) rfl rfl rfl rfl) (by kernel_rfl) (eval_dst hEA (j := 32) rfl rfl)
    · refine ob_val (want_is hEA (g := 33) (x := false) (b := false) rfl rfl rfl rfl) (by kernel_rfl) (fun ph w' hp hpm hw => ?_)
      have hc0 := (hw.cell (p := ⟨w.heap.size + 1, 0, none⟩) b1.lt).trans (b1.c 0 _ rfl)
      have hc1 := (hw.cell (p := ⟨w.heap.size + 1, 1, none⟩) b1.lt).trans (b1.c 1 _ rfl)
      have e4 : A.tmps[4]? = some (.pointer (some ⟨w.heap.size + 1, 0, none⟩)) := at_out hEA (d := 4) (by kernel_rfl); simp [execOp, e4, hc0, hc1, go_sem]
    · refine ob_val (want_is hEA (g := 33) (x := false) (b := false) rfl rfl rfl rfl) (by kernel_rfl) (fun ph w' hp hpm hw => ?_)
      have hc0 := (hw.cell (p := ⟨w.heap.size + 1 + 1, 0, none⟩) b2.lt).trans (b2.c 0 _ rfl)
      have hc1 := (hw.cell (p := ⟨w.heap.size + 1 + 1, 1, none⟩) b2.lt).trans (b2.c 1 _ rfl)
      have e5 : A.tmps[5]? = some (.pointer (some ⟨w.heap.size + 1 + 1, 0, none⟩)) := at_out hEA (d := 5) (by kernel_rfl); simp [execOp, e5, hc0, hc1, go_sem]
    · refine ob_call (q := 5) (f := 9) (args := #[.agg #[.int .i64 c, .int .i64 d], .agg #[.int .i64 e, .int .i64 f]]) (want_is hEA (g := 33) (x := false) (b := false) rfl rfl rfl rfl) (by kernel_rfl) (fun w' => by have e41 : A.tmps[41]? = some (.agg #[.int .i64 c, .int .i64 d]) := hEA.dst 34 _ 41 rfl rfl; have e42 : A.tmps[42]? = some (.agg #[.int .i64 e, .int .i64 f]) := hEA.dst 35 _ 42 rfl rfl; simp [e41, e42, go_sem]) ?_
      intro w' hw
      refine (Calls.mono (R := fun e W' => e = .returned (.bool false) ∧ Below w'.heap.size w' W') (by have := less_any c d e f w'; rwa [hR] at this) ?_)
      rintro e w2 ⟨rfl, hb⟩
      exact ⟨rfl, hw.trans (hb.mono hw.size)⟩
    · refine ob_val (want_is hEA (g := 33) (x := false) (b := false) rfl rfl rfl rfl) (by kernel_rfl) (fun ph w' hp hpm hw => ?_)
      have e43 : A.tmps[43]? = some (.bool false) := hEA.dst 36 _ 43 rfl rfl; simp [execOp, e43, go_sem]
    · refine ob_val (want_is hEA (g := 28) (x := true) (b := true) rfl rfl rfl rfl) (by kernel_rfl) (fun ph w' hp hpm hw => ?_)
      have e40 : A.tmps[40]? = some (.bool false) := hEA.dst 33 _ 40 rfl rfl; have e44 : A.tmps[44]? = some (.bool true) := hEA.dst 37 _ 44 rfl rfl; simp [execOp, e40, e44, go_sem]
    · exact ob_move _ rfl (want_is hEA (g := 28) (x := true) (b := true) rfl rfl rfl rfl) (by kernel_rfl) (eval_dst hEA (j := 38) rfl rfl)
    · exact ob_skip (want_is hEA (g := 39) (x := true) (b := false) rfl rfl rfl rfl) (by kernel_rfl) rfl
    · exact ob_skip (want_is hEA (g := 39) (x := true) (b := false) rfl rfl rfl rfl) (by kernel_rfl) rfl
    · exact ob_skip (want_is hEA (g := 39) (x := true) (b := false) rfl rfl rfl rfl) (by kernel_rfl) rfl
    · refine ob_val (want_is hEA (g := 28) (x := true) (b := true) rfl rfl rfl rfl) (by kernel_rfl) (fun ph w' hp hpm hw => ?_)
      have e46 : A.tmps[46]? = some (.bool true) := hEA.dst 39 _ 46 rfl rfl; have e49 : A.tmps[49]? = some (undef) := hEA.dst 42 _ 49 rfl rfl; simp [execOp, e46, e49, go_sem]
    · refine ob_val (want_none rfl) (by kernel_rfl) (fun ph w' hp hpm hw => ?_)
      have e35 : A.tmps[35]? = some (.bool true) := hEA.dst 28 _ 35 rfl rfl; have e50 : A.tmps[50]? = some (.bool true) := hEA.dst 43 _ 50 rfl rfl; simp [execOp, e35, e50, go_sem]
    · refine ob_val (want_none rfl) (by kernel_rfl) (fun ph w' hp hpm hw => ?_)
      have e51 : A.tmps[51]? = some (.bool true) := hEA.dst 44 _ 51 rfl rfl; simp [execOp, e51, go_sem]
  · intro w' hw
    simp only [laid, Act.put, List.setIfInBounds_toArray, List.set_cons_succ, List.set_cons_zero, List.getD_cons_succ, List.getD_cons_zero, Nat.zero_add, Nat.reduceAdd]
    go_wp2_with fail
    go_ret
    exact ⟨rfl, B.trans (hw.mono B.size)⟩

set_option maxRecDepth 100000 in
set_option maxHeartbeats 8000000 in
theorem memberOrder_three (a b c d e f : Int) (w : World) (hP : lessM a b c d = true) (hQ : lessM c d a b = false) (hE : a = c → ¬ b = d) (hR : lessM c d e f = true) (hS : lessM a b e f = true) :
    Calls Try.prog 6 #[vM a b, vM c d, vM e f] w fun e w' => e = .returned (.bool true) ∧ Below w.heap.size w w' := by
  go_enter Try.func6, Try.ntmps6
  go_wp2_with fail
  obtain ⟨W0, hW0, b0, b1, b2, B⟩ := new3 w [.int .i64 a, .int .i64 b] [.int .i64 c, .int .i64 d] [.int .i64 e, .int .i64 f] 24 24 24
  rw [hW0]
  clear hW0
  refine wp_region_plan (fun i => ([.bool true, .bool true, .agg #[.int .i64 a, .int .i64 b], .agg #[.int .i64 c, .int .i64 d], .bool false, .agg #[.int .i64 a, .int .i64 b], .agg #[.int .i64 c, .int .i64 d], .bool true, .bool false, .bool false, undef, undef, undef, undef, .bool false, .bool true, .bool true, .bool true, .agg #[.int .i64 a, .int .i64 b], .agg #[.int .i64 c, .int .i64 d], .bool true, .bool true, .agg #[.int .i64 c, .int .i64 d], .agg #[.int .i64 a, .int .i64 b], .bool false, .bool false, .bool true, .bool true, .bool true, .agg #[.int .i64 a, .int .i64 b], .agg #[.int .i64 c, .int .i64 d], .bool true, .bool false, .bool false, .agg #[.int .i64 c, .int .i64 d], .agg #[.int .i64 e, .int .i64 f], .bool true, .bool false, .bool false, .bool false, .agg #[.int .i64 a, .int .i64 b], .agg #[.int .i64 e, .int .i64 f], .bool true, .bool true, .bool true, .bool true] : List Value).getD i undef) [0, 7, 20, 24, 31, 36, 42] [0, 1, 1, 1, 1, 1, 1, 1, 2, 2, 2, 2, 2, 2, 2, 2, 2, 2, 2, 2, 2, 3, 3, 3, 3, 4, 4, 4, 4, 4, 4, 4, 5, 5, 5, 5, 5, 6, 6, 6, 6, 6, 6, 7, 7, 7] (fun _ w' => Below W0.heap.size W0 w') (by kernel_rfl) (by kernel_rfl) (⟨rfl, rfl, rfl, Nat.le_refl _, fun _ _ => rfl⟩) ?_ ?_
  · refine Obs_of_ends (by kernel_rfl) ?_
    intro A hEA
    refine ⟨?_, ?_, ?_, ?_, ?_, ?_, ?_, ?_, ?_, ?_, ?_, ?_, ?_, ?_, ?_, ?_, ?_, ?_, ?_, ?_, ?_, ?_, ?_, ?_, ?_, ?_, ?_, ?_, ?_, ?_, ?_, ?_, ?_, ?_, ?_, ?_, ?_, ?_, ?_, ?_, ?_, ?_, ?_, ?_, ?_, ?_, trivial⟩
    · refine ob_call (q := 0) (f := 8) (args := #[]) (want_none rfl) (by kernel_rfl) (fun w' => by simp [go_sem]) ?_
      intro w' hw
      refine (Calls.mono (R := fun e W' => e = .returned (.bool true) ∧ Below w'.heap.size w' W') (awake8_any w') ?_)
      rintro e w2 ⟨rfl, hb⟩
      exact ⟨rfl, hw.trans (hb.mono hw.size)⟩
    · exact ob_move _ rfl (want_none rfl) (by kernel_rfl) (eval_dst hEA (j := 0) rfl rfl)
    · refine ob_val (want_is hEA (g := 1) (x := true) (b := true) rfl rfl rfl rfl) (by kernel_rfl) (fun ph w' hp hpm hw => ?_)
      have hc0 := (hw.cell (p := ⟨w.heap.size, 0, none⟩) b0.lt).trans (b0.c 0 _ rfl)
      have hc1 := (hw.cell (p := ⟨w.heap.size, 1, none⟩) b0.lt).trans (b0.c 1 _ rfl)
      have e3 : A.tmps[3]? = some (.pointer (some ⟨w.heap.size, 0, none⟩)) := at_out hEA (d := 3) (by kernel_rfl); simp [execOp, e3, hc0, hc1, go_sem]
    · refine ob_val (want_is hEA (g := 1) (x := true) (b := true) rfl rfl rfl rfl) (by kernel_rfl) (fun ph w' hp hpm hw => ?_)
      have hc0 := (hw.cell (p := ⟨w.heap.size + 1, 0, none⟩) b1.lt).trans (b1.c 0 _ rfl)
      have hc1 := (hw.cell (p := ⟨w.heap.size + 1, 1, none⟩) b1.lt).trans (b1.c 1 _ rfl)
      have e4 : A.tmps[4]? = some (.pointer (some ⟨w.heap.size + 1, 0, none⟩)) := at_out hEA (d := 4) (by kernel_rfl); simp [execOp, e4, hc0, hc1, go_sem]
    · refine ob_val (want_is hEA (g := 1) (x := true) (b := true) rfl rfl rfl rfl) (by kernel_rfl) (fun ph w' hp hpm hw => ?_)
      have e9 : A.tmps[9]? = some (.agg #[.int .i64 a, .int .i64 b]) := hEA.dst 2 _ 9 rfl rfl; have e10 : A.tmps[10]? = some (.agg #[.int .i64 c, .int .i64 d]) := hEA.dst 3 _ 10 rfl rfl; simp [execOp, e9, e10, go_sem]; exact hE
    · refine ob_val (want_is hEA (g := 1) (x := true) (b := true) rfl rfl rfl rfl) (by kernel_rfl) (fun ph w' hp hpm hw => ?_)
      have hc0 := (hw.cell (p := ⟨w.heap.size, 0, none⟩) b0.lt).trans (b0.c 0 _ rfl)
      have hc1 := (hw.cell (p := ⟨w.heap.size, 1, none⟩) b0.lt).trans (b0.c 1 _ rfl)
      have e3 : A.tmps[3]? = some (.pointer (some ⟨w.heap.size, 0, none⟩)) := at_out hEA (d := 3) (by kernel_rfl); simp [execOp, e3, hc0, hc1, go_sem]
    · refine ob_val (want_is hEA (g := 1) (x := true) (b := true) rfl rfl rfl rfl) (by kernel_rfl) (fun ph w' hp hpm hw => ?_)
      have hc0 := (hw.cell (p := ⟨w.heap.size + 1, 0, none⟩) b1.lt).trans (b1.c 0 _ rfl)
      have hc1 := (hw.cell (p := ⟨w.heap.size + 1, 1, none⟩) b1.lt).trans (b1.c 1 _ rfl)
      have e4 : A.tmps[4]? = some (.pointer (some ⟨w.heap.size + 1, 0, none⟩)) := at_out hEA (d := 4) (by kernel_rfl); simp [execOp, e4, hc0, hc1, go_sem]
    · refine ob_call (q := 1) (f := 9) (args := #[.agg #[.int .i64 a, .int .i64 b], .agg #[.int .i64 c, .int .i64 d]]) (want_is hEA (g := 1) (x := true) (b := true) rfl rfl rfl rfl) (by kernel_rfl) (fun w' => by have e12 : A.tmps[12]? = some (.agg #[.int .i64 a, .int .i64 b]) := hEA.dst 5 _ 12 rfl rfl; have e13 : A.tmps[13]? = some (.agg #[.int .i64 c, .int .i64 d]) := hEA.dst 6 _ 13 rfl rfl; simp [e12, e13, go_sem]) ?_
      intro w' hw
      refine (Calls.mono (R := fun e W' => e = .returned (.bool true) ∧ Below w'.heap.size w' W') (by have := less_any a b c d w'; rwa [hP] at this) ?_)
      rintro e w2 ⟨rfl, hb⟩
      exact ⟨rfl, hw.trans (hb.mono hw.size)⟩
    · refine ob_val (want_is hEA (g := 1) (x := true) (b := true) rfl rfl rfl rfl) (by kernel_rfl) (fun ph w' hp hpm hw => ?_)
      have e14 : A.tmps[14]? = some (.bool true) := hEA.dst 7 _ 14 rfl rfl; simp [execOp, e14, go_sem]
    · exact ob_move _ rfl (want_is hEA (g := 1) (x := true) (b := true) rfl rfl rfl rfl) (by kernel_rfl) (eval_dst hEA (j := 8) rfl rfl)
    · exact ob_skip (want_is hEA (g := 9) (x := false) (b := true) rfl rfl rfl rfl) (by kernel_rfl) rfl
    · exact ob_skip (want_is hEA (g := 9) (x := false) (b := true) rfl rfl rfl rfl) (by kernel_rfl) rfl
    · exact ob_skip (want_is hEA (g := 9) (x := false) (b := true) rfl rfl rfl rfl) (by kernel_rfl) rfl
    · exact ob_skip (want_is hEA (g := 9) (x := false) (b := true) rfl rfl rfl rfl) (by kernel_rfl) rfl
    · refine ob_val (want_is hEA (g := 1) (x := true) (b := true) rfl rfl rfl rfl) (by kernel_rfl) (fun ph w' hp hpm hw => ?_)
      have e16 : A.tmps[16]? = some (.bool false) := hEA.dst 9 _ 16 rfl rfl; have e20 : A.tmps[20]? = some (undef) := hEA.dst 13 _ 20 rfl rfl; simp [execOp, e16, e20, go_sem]
    · refine ob_val (want_is hEA (g := 1) (x := true) (b := true) rfl rfl rfl rfl) (by kernel_rfl) (fun ph w' hp hpm hw => ?_)
      have e11 : A.tmps[11]? = some (.bool false) := hEA.dst 4 _ 11 rfl rfl; have e21 : A.tmps[21]? = some (.bool false) := hEA.dst 14 _ 21 rfl rfl; simp [execOp, e11, e21, go_sem]
    · refine ob_val (want_none rfl) (by kernel_rfl) (fun ph w' hp hpm hw => ?_)
      have e8 : A.tmps[8]? = some (.bool true) := hEA.dst 1 _ 8 rfl rfl; have e22 : A.tmps[22]? = some (.bool true) := hEA.dst 15 _ 22 rfl rfl; simp [execOp, e8, e22, go_sem]
    · exact ob_move _ rfl (want_none rfl) (by kernel_rfl) (eval_dst hEA (j := 16) rfl rfl)
    · refine ob_val (want_is hEA (g := 17) (x := true) (b := true) rfl rfl rfl rfl) (by kernel_rfl) (fun ph w' hp hpm hw => ?_)
      have hc0 := (hw.cell (p := ⟨w.heap.size, 0, none⟩) b0.lt).trans (b0.c 0 _ rfl)
      have hc1 := (hw.cell (p := ⟨w.heap.size, 1, none⟩) b0.lt).trans (b0.c 1 _ rfl)
      have e3 : A.tmps[3]? = some (.pointer (some ⟨w.heap.size, 0, none⟩)) := at_out hEA (d := 3) (by kernel_rfl); simp [execOp, e3, hc0, hc1, go_sem]
    · refine ob_val (want_is hEA (g := 17) (x := true) (b := true) rfl rfl rfl rfl) (by kernel_rfl) (fun ph w' hp hpm hw => ?_)
      have hc0 := (hw.cell (p := ⟨w.heap.size + 1, 0, none⟩) b1.lt).trans (b1.c 0 _ rfl)
      have hc1 := (hw.cell (p := ⟨w.heap.size + 1, 1, none⟩) b1.lt).trans (b1.c 1 _ rfl)
      have e4 : A.tmps[4]? = some (.pointer (some ⟨w.heap.size + 1, 0, none⟩)) := at_out hEA (d := 4) (by kernel_rfl); simp [execOp, e4, hc0, hc1, go_sem]
    · refine ob_call (q := 2) (f := 9) (args := #[.agg #[.int .i64 a, .int .i64 b], .agg #[.int .i64 c, .int .i64 d]]) (want_is hEA (g := 17) (x := true) (b := true) rfl rfl rfl rfl) (by kernel_rfl) (fun w' => by have e25 : A.tmps[25]? = some (.agg #[.int .i64 a, .int .i64 b]) := hEA.dst 18 _ 25 rfl rfl; have e26 : A.tmps[26]? = some (.agg #[.int .i64 c, .int .i64 d]) := hEA.dst 19 _ 26 rfl rfl; simp [e25, e26, go_sem]) ?_
      intro w' hw
      refine (Calls.mono (R := fun e W' => e = .returned (.bool true) ∧ Below w'.heap.size w' W') (by have := less_any a b c d w'; rwa [hP] at this) ?_)
      rintro e w2 ⟨rfl, hb⟩
      exact ⟨rfl, hw.trans (hb.mono hw.size)⟩
    · exact ob_move _ rfl (want_is hEA (g := 17) (x := true) (b := true) rfl rfl rfl rfl) (by kernel_rfl) (eval_dst hEA (j := 20) rfl rfl)
    · refine ob_val (want_is hEA (g := 21) (x := true) (b := true) rfl rfl rfl rfl) (by kernel_rfl) (fun ph w' hp hpm hw => ?_)
      have hc0 := (hw.cell (p := ⟨w.heap.size + 1, 0, none⟩) b1.lt).trans (b1.c 0 _ rfl)
      have hc1 := (hw.cell (p := ⟨w.heap.size + 1, 1, none⟩) b1.lt).trans (b1.c 1 _ rfl)
      have e4 : A.tmps[4]? = some (.pointer (some ⟨w.heap.size + 1, 0, none⟩)) := at_out hEA (d := 4) (by kernel_rfl); simp [execOp, e4, hc0, hc1, go_sem]
    · refine ob_val (want_is hEA (g := 21) (x := true) (b := true) rfl rfl rfl rfl) (by kernel_rfl) (fun ph w' hp hpm hw => ?_)
      have hc0 := (hw.cell (p := ⟨w.heap.size, 0, none⟩) b0.lt).trans (b0.c 0 _ rfl)
      have hc1 := (hw.cell (p := ⟨w.heap.size, 1, none⟩) b0.lt).trans (b0.c 1 _ rfl)
      have e3 : A.tmps[3]? = some (.pointer (some ⟨w.heap.size, 0, none⟩)) := at_out hEA (d := 3) (by kernel_rfl); simp [execOp, e3, hc0, hc1, go_sem]
    · refine ob_call (q := 3) (f := 9) (args := #[.agg #[.int .i64 c, .int .i64 d], .agg #[.int .i64 a, .int .i64 b]]) (want_is hEA (g := 21) (x := true) (b := true) rfl rfl rfl rfl) (by kernel_rfl) (fun w' => by have e29 : A.tmps[29]? = some (.agg #[.int .i64 c, .int .i64 d]) := hEA.dst 22 _ 29 rfl rfl; have e30 : A.tmps[30]? = some (.agg #[.int .i64 a, .int .i64 b]) := hEA.dst 23 _ 30 rfl rfl; simp [e29, e30, go_sem]) ?_
      intro w' hw
      refine (Calls.mono (R := fun e W' => e = .returned (.bool false) ∧ Below w'.heap.size w' W') (by have := less_any c d a b w'; rwa [hQ] at this) ?_)
      rintro e w2 ⟨rfl, hb⟩
      exact ⟨rfl, hw.trans (hb.mono hw.size)⟩
    · refine ob_val (want_is hEA (g := 17) (x := true) (b := true) rfl rfl rfl rfl) (by kernel_rfl) (fun ph w' hp hpm hw => ?_)
      have e28 : A.tmps[28]? = some (.bool true) := hEA.dst 21 _ 28 rfl rfl; have e31 : A.tmps[31]? = some (.bool false) := hEA.dst 24 _ 31 rfl rfl; simp [execOp, e28, e31, go_sem]
    · refine ob_val (want_is hEA (g := 17) (x := true) (b := true) rfl rfl rfl rfl) (by kernel_rfl) (fun ph w' hp hpm hw => ?_)
      have e32 : A.tmps[32]? = some (.bool false) := hEA.dst 25 _ 32 rfl rfl; simp [execOp, e32, go_sem]
    · refine ob_val (want_none rfl) (by kernel_rfl) (fun ph w' hp hpm hw => ?_)
      have e24 : A.tmps[24]? = some (.bool true) := hEA.dst 17 _ 24 rfl rfl; have e33 : A.tmps[33]? = some (.bool true) := hEA.dst 26 _ 33 rfl rfl; simp [execOp, e24, e33, go_sem]
    · exact ob_move _ rfl (want_none rfl) (by kernel_rfl) (eval_dst hEA (j := 27) rfl rfl)
    · refine ob_val (want_is hEA (g := 28) (x := true) (b := true) rfl rfl rfl rfl) (by kernel_rfl) (fun ph w' hp hpm hw => ?_)
      have hc0 := (hw.cell (p := ⟨w.heap.size, 0, none⟩) b0.lt).trans (b0.c 0 _ rfl)
      have hc1 := (hw.cell (p := ⟨w.heap.size, 1, none⟩) b0.lt).trans (b0.c 1 _ rfl)
      have e3 : A.tmps[3]? = some (.pointer (some ⟨w.heap.size, 0, none⟩)) := at_out hEA (d := 3) (by kernel_rfl); simp [execOp, e3, hc0, hc1, go_sem]
    · refine ob_val (want_is hEA (g := 28) (x := true) (b := true) rfl rfl rfl rfl) (by kernel_rfl) (fun ph w' hp hpm hw => ?_)
      have hc0 := (hw.cell (p := ⟨w.heap.size + 1, 0, none⟩) b1.lt).trans (b1.c 0 _ rfl)
      have hc1 := (hw.cell (p := ⟨w.heap.size + 1, 1, none⟩) b1.lt).trans (b1.c 1 _ rfl)
      have e4 : A.tmps[4]? = some (.pointer (some ⟨w.heap.size + 1, 0, none⟩)) := at_out hEA (d := 4) (by kernel_rfl); simp [execOp, e4, hc0, hc1, go_sem]
    · refine ob_call (q := 4) (f := 9) (args := #[.agg #[.int .i64 a, .int .i64 b], .agg #[.int .i64 c, .int .i64 d]]) (want_is hEA (g := 28) (x := true) (b := true) rfl rfl rfl rfl) (by kernel_rfl) (fun w' => by have e36 : A.tmps[36]? = some (.agg #[.int .i64 a, .int .i64 b]) := hEA.dst 29 _ 36 rfl rfl; have e37 : A.tmps[37]? = some (.agg #[.int .i64 c, .int .i64 d]) := hEA.dst 30 _ 37 rfl rfl; simp [e36, e37, go_sem]) ?_
      intro w' hw
      refine (Calls.mono (R := fun e W' => e = .returned (.bool true) ∧ Below w'.heap.size w' W') (by have := less_any a b c d w'; rwa [hP] at this) ?_)
      rintro e w2 ⟨rfl, hb⟩
      exact ⟨rfl, hw.trans (hb.mono hw.size)⟩
    · refine ob_val (want_is hEA (g := 28) (x := true) (b := true) rfl rfl rfl rfl) (by kernel_rfl) (fun ph w' hp hpm hw => ?_)
      have e38 : A.tmps[38]? = some (.bool true) := hEA.dst 31 _ 38 rfl rfl; simp [execOp, e38, go_sem]
    · exact ob_move _ rfl (want_is hEA (g := 28) (x := true) (b := true) rfl rfl rfl rfl) (by kernel_rfl) (eval_dst hEA (j := 32) rfl rfl)
    · refine ob_val (want_is hEA (g := 33) (x := false) (b := false) rfl rfl rfl rfl) (by kernel_rfl) (fun ph w' hp hpm hw => ?_)
      have hc0 := (hw.cell (p := ⟨w.heap.size + 1, 0, none⟩) b1.lt).trans (b1.c 0 _ rfl)
      have hc1 := (hw.cell (p := ⟨w.heap.size + 1, 1, none⟩) b1.lt).trans (b1.c 1 _ rfl)
      have e4 : A.tmps[4]? = some (.pointer (some ⟨w.heap.size + 1, 0, none⟩)) := at_out hEA (d := 4) (by kernel_rfl); simp [execOp, e4, hc0, hc1, go_sem]
    · refine ob_val (want_is hEA (g := 33) (x := false) (b := false) rfl rfl rfl rfl) (by kernel_rfl) (fun ph w' hp hpm hw => ?_)
      have hc0 := (hw.cell (p := ⟨w.heap.size + 1 + 1, 0, none⟩) b2.lt).trans (b2.c 0 _ rfl)
      have hc1 := (hw.cell (p := ⟨w.heap.size + 1 + 1, 1, none⟩) b2.lt).trans (b2.c 1 _ rfl)
      have e5 : A.tmps[5]? = some (.pointer (some ⟨w.heap.size + 1 + 1, 0, none⟩)) := at_out hEA (d := 5) (by kernel_rfl); simp [execOp, e5, hc0, hc1, go_sem]
    · refine ob_call (q := 5) (f := 9) (args := #[.agg #[.int .i64 c, .int .i64 d], .agg #[.int .i64 e, .int .i64 f]]) (want_is hEA (g := 33) (x := false) (b := false) rfl rfl rfl rfl) (by kernel_rfl) (fun w' => by have e41 : A.tmps[41]? = some (.agg #[.int .i64 c, .int .i64 d]) := hEA.dst 34 _ 41 rfl rfl; have e42 : A.tmps[42]? = some (.agg #[.int .i64 e, .int .i64 f]) := hEA.dst 35 _ 42 rfl rfl; simp [e41, e42, go_sem]) ?_
      intro w' hw
      refine (Calls.mono (R := fun e W' => e = .returned (.bool true) ∧ Below w'.heap.size w' W') (by have := less_any c d e f w'; rwa [hR] at this) ?_)
      rintro e w2 ⟨rfl, hb⟩
      exact ⟨rfl, hw.trans (hb.mono hw.size)⟩
    · refine ob_val (want_is hEA (g := 33) (x := false) (b := false) rfl rfl rfl rfl) (by kernel_rfl) (fun ph w' hp hpm hw => ?_)
      have e43 : A.tmps[43]? = some (.bool true) := hEA.dst 36 _ 43 rfl rfl; simp [execOp, e43, go_sem]
    · refine ob_val (want_is hEA (g := 28) (x := true) (b := true) rfl rfl rfl rfl) (by kernel_rfl) (fun ph w' hp hpm hw => ?_)
      have e40 : A.tmps[40]? = some (.bool false) := hEA.dst 33 _ 40 rfl rfl; have e44 : A.tmps[44]? = some (.bool false) := hEA.dst 37 _ 44 rfl rfl; simp [execOp, e40, e44, go_sem]
    · exact ob_move _ rfl (want_is hEA (g := 28) (x := true) (b := true) rfl rfl rfl rfl) (by kernel_rfl) (eval_dst hEA (j := 38) rfl rfl)
    · refine ob_val (want_is hEA (g := 39) (x := false) (b := false) rfl rfl rfl rfl) (by kernel_rfl) (fun ph w' hp hpm hw => ?_)
      have hc0 := (hw.cell (p := ⟨w.heap.size, 0, none⟩) b0.lt).trans (b0.c 0 _ rfl)
      have hc1 := (hw.cell (p := ⟨w.heap.size, 1, none⟩) b0.lt).trans (b0.c 1 _ rfl)
      have e3 : A.tmps[3]? = some (.pointer (some ⟨w.heap.size, 0, none⟩)) := at_out hEA (d := 3) (by kernel_rfl); simp [execOp, e3, hc0, hc1, go_sem]
    · refine ob_val (want_is hEA (g := 39) (x := false) (b := false) rfl rfl rfl rfl) (by kernel_rfl) (fun ph w' hp hpm hw => ?_)
      have hc0 := (hw.cell (p := ⟨w.heap.size + 1 + 1, 0, none⟩) b2.lt).trans (b2.c 0 _ rfl)
      have hc1 := (hw.cell (p := ⟨w.heap.size + 1 + 1, 1, none⟩) b2.lt).trans (b2.c 1 _ rfl)
      have e5 : A.tmps[5]? = some (.pointer (some ⟨w.heap.size + 1 + 1, 0, none⟩)) := at_out hEA (d := 5) (by kernel_rfl); simp [execOp, e5, hc0, hc1, go_sem]
    · refine ob_call (q := 6) (f := 9) (args := #[.agg #[.int .i64 a, .int .i64 b], .agg #[.int .i64 e, .int .i64 f]]) (want_is hEA (g := 39) (x := false) (b := false) rfl rfl rfl rfl) (by kernel_rfl) (fun w' => by have e47 : A.tmps[47]? = some (.agg #[.int .i64 a, .int .i64 b]) := hEA.dst 40 _ 47 rfl rfl; have e48 : A.tmps[48]? = some (.agg #[.int .i64 e, .int .i64 f]) := hEA.dst 41 _ 48 rfl rfl; simp [e47, e48, go_sem]) ?_
      intro w' hw
      refine (Calls.mono (R := fun e W' => e = .returned (.bool true) ∧ Below w'.heap.size w' W') (by have := less_any a b e f w'; rwa [hS] at this) ?_)
      rintro e w2 ⟨rfl, hb⟩
      exact ⟨rfl, hw.trans (hb.mono hw.size)⟩
    · refine ob_val (want_is hEA (g := 28) (x := true) (b := true) rfl rfl rfl rfl) (by kernel_rfl) (fun ph w' hp hpm hw => ?_)
      have e46 : A.tmps[46]? = some (.bool false) := hEA.dst 39 _ 46 rfl rfl; have e49 : A.tmps[49]? = some (.bool true) := hEA.dst 42 _ 49 rfl rfl; simp [execOp, e46, e49, go_sem]
    · refine ob_val (want_none rfl) (by kernel_rfl) (fun ph w' hp hpm hw => ?_)
      have e35 : A.tmps[35]? = some (.bool true) := hEA.dst 28 _ 35 rfl rfl; have e50 : A.tmps[50]? = some (.bool true) := hEA.dst 43 _ 50 rfl rfl; simp [execOp, e35, e50, go_sem]
    · refine ob_val (want_none rfl) (by kernel_rfl) (fun ph w' hp hpm hw => ?_)
      have e51 : A.tmps[51]? = some (.bool true) := hEA.dst 44 _ 51 rfl rfl; simp [execOp, e51, go_sem]
  · intro w' hw
    simp only [laid, Act.put, List.setIfInBounds_toArray, List.set_cons_succ, List.set_cons_zero, List.getD_cons_succ, List.getD_cons_zero, Nat.zero_add, Nat.reduceAdd]
    go_wp2_with fail
    go_ret
    exact ⟨rfl, B.trans (hw.mono B.size)⟩

theorem memberOrder_walk (x y z : Array Value) (w : World) (w0 : ∃ m, IsM w.heap.size w m x.toList) (w1 : ∃ m, IsM w.heap.size w m y.toList) (w2 : ∃ m, IsM w.heap.size w m z.toList) :
    Calls Try.prog 6 #[.agg x, .agg y, .agg z] w fun e w' => e = .returned (.bool true) ∧ Below w.heap.size w w' := by
  obtain ⟨⟨a, b⟩, h0⟩ := w0
  obtain ⟨⟨c, d⟩, h1⟩ := w1
  obtain ⟨⟨e, f⟩, h2⟩ := w2
  have h0 : x = #[.int .i64 a, .int .i64 b] := by cases x; exact congrArg Array.mk h0
  have h1 : y = #[.int .i64 c, .int .i64 d] := by cases y; exact congrArg Array.mk h1
  have h2 : z = #[.int .i64 e, .int .i64 f] := by cases z; exact congrArg Array.mk h2
  subst h0 h1 h2
  have no : ∀ {a b c d : Int}, ¬ (a < c ∨ (a = c ∧ b < d)) → lessM a b c d = false := fun {a b c d} h => by
    cases e : lessM a b c d
    · rfl
    · exact absurd ((lessM_iff a b c d).1 e) h
  have yes : ∀ {a b c d : Int}, (a < c ∨ (a = c ∧ b < d)) → lessM a b c d = true := fun {a b c d} h => (lessM_iff a b c d).2 h
  by_cases hE : a = c ∧ b = d
  · obtain ⟨rfl, rfl⟩ := hE
    exact memberOrder_same a b e f w (no (by omega))
  · by_cases hP : a < c ∨ (a = c ∧ b < d)
    · by_cases hR : c < e ∨ (c = e ∧ d < f)
      · exact memberOrder_three a b c d e f w (yes hP) (no (by omega)) (by omega) (yes hR) (yes (by omega))
      · exact memberOrder_far a b c d e f w (yes hP) (no (by omega)) (by omega) (no hR)
    · exact memberOrder_after a b c d e f w (no hP) (yes (by omega)) (by omega)

end Go.Proofs.Ytbjefnboppfnaaa
