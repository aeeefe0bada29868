/- The bytes of members and of views' ids; lodge/member's and the document's. No condition. -/
import Derived.Test.YtbjefnboppfnaaaMem
import Derived.Test.YtbjefnboppfnaaaPhase
namespace Go.Proofs.Ytbjefnboppfnaaa
open Go.RowKit
set_option linter.unusedVariables false

set_option maxRecDepth 100000 in
theorem print_any (a b : Int) (w : World) : Calls Try.prog 19 #[vM a b] w fun e W' => e = .returned (.string (tx (layM a b))) ∧ Below w.heap.size w W' := by
  go_enter Try.func19, Try.ntmps19
  go_wp2_with fail
  obtain ⟨W0, hW0, hlt, B, c0, c1⟩ : ∃ W0, w.alloc (.cells #[.int .i64 a, .int .i64 b] 24) = W0 ∧ w.heap.size < W0.heap.size ∧ Below w.heap.size w W0 ∧ W0.cell? ⟨w.heap.size, 0, none⟩ = some (.int .i64 a) ∧ W0.cell? ⟨w.heap.size, 1, none⟩ = some (.int .i64 b) := ⟨_, rfl, by simp, below_new _ _, by simp, by simp⟩
  rw [hW0]
  clear hW0
  have r0 := tx_room (a := layN a) (b := layN b) (by simp [layN_length])
  refine wp_region_plan (fun i => ([.pointer (some ⟨w.heap.size, 0, none⟩), .int .i64 a, .string (tx (layN a)), .pointer (some ⟨w.heap.size, 1, none⟩), .int .i64 b, .string (tx (layN b)), .string (tx (layN a ++ layN b)), .string (tx (layN a ++ layN b))] : List Value).getD i undef) [2, 5] [0, 0, 0, 0, 0, 1, 2, 2] (fun _ w' => Below W0.heap.size W0 w') (by kernel_rfl) (by kernel_rfl) (⟨rfl, rfl, rfl, Nat.le_refl _, fun _ _ => rfl⟩) ?_ ?_
  · refine Obs_of_ends (by kernel_rfl) ?_
    intro A hE
    refine ⟨?_, ?_, ?_, ?_, ?_, ?_, ?_, ?_, trivial⟩
    · refine ob_val (want_none rfl) (by kernel_rfl) (fun ph w' hp hm hw => ?_)
      have e1 : A.tmps[1]? = some (.pointer (some ⟨w.heap.size, 0, none⟩)) := at_out hE (d := 1) (by kernel_rfl); simp [execOp, e1, go_sem]
    · refine ob_val (want_none rfl) (by kernel_rfl) (fun ph w' hp hm hw => ?_)
      have hc0 := (hw.cell (p := ⟨w.heap.size, 0, none⟩) hlt).trans c0
      have e3 : A.tmps[3]? = some (.pointer (some ⟨w.heap.size, 0, none⟩)) := hE.dst 0 _ 3 rfl rfl; simp [execOp, e3, hc0, go_sem]
    · refine ob_call (q := 0) (f := 30) (args := #[.int .i64 a]) (want_none rfl) (by kernel_rfl) (fun w' => by have e4 : A.tmps[4]? = some (.int .i64 a) := hE.dst 1 _ 4 rfl rfl; simp [e4, go_sem]) ?_
      intro w' hw
      refine (layNum_any a w').mono ?_
      rintro e w2 ⟨rfl, hb⟩
      exact ⟨rfl, hw.trans (hb.mono hw.size)⟩
    · refine ob_val (want_none rfl) (by kernel_rfl) (fun ph w' hp hm hw => ?_)
      have e1 : A.tmps[1]? = some (.pointer (some ⟨w.heap.size, 0, none⟩)) := at_out hE (d := 1) (by kernel_rfl); simp [execOp, e1, go_sem]
    · refine ob_val (want_none rfl) (by kernel_rfl) (fun ph w' hp hm hw => ?_)
      have hc0 := (hw.cell (p := ⟨w.heap.size, 1, none⟩) hlt).trans c1
      have e6 : A.tmps[6]? = some (.pointer (some ⟨w.heap.size, 1, none⟩)) := hE.dst 3 _ 6 rfl rfl; simp [execOp, e6, hc0, go_sem]
    · refine ob_call (q := 1) (f := 30) (args := #[.int .i64 b]) (want_none rfl) (by kernel_rfl) (fun w' => by have e7 : A.tmps[7]? = some (.int .i64 b) := hE.dst 4 _ 7 rfl rfl; simp [e7, go_sem]) ?_
      intro w' hw
      refine (layNum_any b w').mono ?_
      rintro e w2 ⟨rfl, hb⟩
      exact ⟨rfl, hw.trans (hb.mono hw.size)⟩
    · refine ob_val (want_none rfl) (by kernel_rfl) (fun ph w' hp hm hw => ?_)
      have e5 : A.tmps[5]? = some (.string (tx (layN a))) := hE.dst 2 _ 5 rfl rfl; have e8 : A.tmps[8]? = some (.string (tx (layN b))) := hE.dst 5 _ 8 rfl rfl; simp [execOp, e5, e8, r0, tx_app, go_sem]
    · refine ob_val (want_none rfl) (by kernel_rfl) (fun ph w' hp hm hw => ?_)
      have e9 : A.tmps[9]? = some (.string (tx (layN a ++ layN b))) := hE.dst 6 _ 9 rfl rfl; simp [execOp, e9, go_sem]
  · intro w' hw
    simp only [laid, Act.put, List.setIfInBounds_toArray, List.set_cons_succ, List.set_cons_zero, List.getD_cons_succ, List.getD_cons_zero, Nat.zero_add, Nat.reduceAdd]
    go_wp2_with fail
    go_ret
    exact ⟨rfl, B.trans (hw.mono B.size)⟩
set_option maxRecDepth 100000 in
theorem printId_any (a b c : Int) (w : World) : Calls Try.prog 21 #[vV a b c] w fun e W' => e = .returned (.string (tx (layV a b c))) ∧ Below w.heap.size w W' := by
  go_enter Try.func21, Try.ntmps21
  go_wp2_with fail
  obtain ⟨W0, hW0, hlt, B, c0, c1, c2⟩ : ∃ W0, w.alloc (.cells #[.int .i64 a, .int .i64 b, .int .i64 c] 26) = W0 ∧ w.heap.size < W0.heap.size ∧ Below w.heap.size w W0 ∧ W0.cell? ⟨w.heap.size, 0, none⟩ = some (.int .i64 a) ∧ W0.cell? ⟨w.heap.size, 1, none⟩ = some (.int .i64 b) ∧ W0.cell? ⟨w.heap.size, 2, none⟩ = some (.int .i64 c) := ⟨_, rfl, by simp, below_new _ _, by simp, by simp, by simp⟩
  rw [hW0]
  clear hW0
  have r0 := tx_room (a := layN a) (b := layN b) (by simp [layN_length])
  have r1 := tx_room (a := layN a ++ layN b) (b := layN c) (by simp [layN_length])
  refine wp_region_plan (fun i => ([.pointer (some ⟨w.heap.size, 0, none⟩), .int .i64 a, .string (tx (layN a)), .pointer (some ⟨w.heap.size, 1, none⟩), .int .i64 b, .string (tx (layN b)), .string (tx (layN a ++ layN b)), .pointer (some ⟨w.heap.size, 2, none⟩), .int .i64 c, .string (tx (layN c)), .string (tx (layN a ++ layN b ++ layN c)), .string (tx (layN a ++ layN b ++ layN c))] : List Value).getD i undef) [2, 5, 9] [0, 0, 0, 0, 0, 1, 2, 0, 0, 2, 3, 3] (fun _ w' => Below W0.heap.size W0 w') (by kernel_rfl) (by kernel_rfl) (⟨rfl, rfl, rfl, Nat.le_refl _, fun _ _ => rfl⟩) ?_ ?_
  · refine Obs_of_ends (by kernel_rfl) ?_
    intro A hE
    refine ⟨?_, ?_, ?_, ?_, ?_, ?_, ?_, ?_, ?_, ?_, ?_, ?_, trivial⟩
    · refine ob_val (want_none rfl) (by kernel_rfl) (fun ph w' hp hm hw => ?_)
      have e1 : A.tmps[1]? = some (.pointer (some ⟨w.heap.size, 0, none⟩)) := at_out hE (d := 1) (by kernel_rfl); simp [execOp, e1, go_sem]
    · refine ob_val (want_none rfl) (by kernel_rfl) (fun ph w' hp hm hw => ?_)
      have hc0 := (hw.cell (p := ⟨w.heap.size, 0, none⟩) hlt).trans c0
      have e3 : A.tmps[3]? = some (.pointer (some ⟨w.heap.size, 0, none⟩)) := hE.dst 0 _ 3 rfl rfl; simp [execOp, e3, hc0, go_sem]
    · refine ob_call (q := 0) (f := 30) (args := #[.int .i64 a]) (want_none rfl) (by kernel_rfl) (fun w' => by have e4 : A.tmps[4]? = some (.int .i64 a) := hE.dst 1 _ 4 rfl rfl; simp [e4, go_sem]) ?_
      intro w' hw
      refine (layNum_any a w').mono ?_
      rintro e w2 ⟨rfl, hb⟩
      exact ⟨rfl, hw.trans (hb.mono hw.size)⟩
    · refine ob_val (want_none rfl) (by kernel_rfl) (fun ph w' hp hm hw => ?_)
      have e1 : A.tmps[1]? = some (.pointer (some ⟨w.heap.size, 0, none⟩)) := at_out hE (d := 1) (by kernel_rfl); simp [execOp, e1, go_sem]
    · refine ob_val (want_none rfl) (by kernel_rfl) (fun ph w' hp hm hw => ?_)
      have hc0 := (hw.cell (p := ⟨w.heap.size, 1, none⟩) hlt).trans c1
      have e6 : A.tmps[6]? = some (.pointer (some ⟨w.heap.size, 1, none⟩)) := hE.dst 3 _ 6 rfl rfl; simp [execOp, e6, hc0, go_sem]
    · refine ob_call (q := 1) (f := 30) (args := #[.int .i64 b]) (want_none rfl) (by kernel_rfl) (fun w' => by have e7 : A.tmps[7]? = some (.int .i64 b) := hE.dst 4 _ 7 rfl rfl; simp [e7, go_sem]) ?_
      intro w' hw
      refine (layNum_any b w').mono ?_
      rintro e w2 ⟨rfl, hb⟩
      exact ⟨rfl, hw.trans (hb.mono hw.size)⟩
    · refine ob_val (want_none rfl) (by kernel_rfl) (fun ph w' hp hm hw => ?_)
      have e5 : A.tmps[5]? = some (.string (tx (layN a))) := hE.dst 2 _ 5 rfl rfl; have e8 : A.tmps[8]? = some (.string (tx (layN b))) := hE.dst 5 _ 8 rfl rfl; simp [execOp, e5, e8, r0, tx_app, go_sem]
    · refine ob_val (want_none rfl) (by kernel_rfl) (fun ph w' hp hm hw => ?_)
      have e1 : A.tmps[1]? = some (.pointer (some ⟨w.heap.size, 0, none⟩)) := at_out hE (d := 1) (by kernel_rfl); simp [execOp, e1, go_sem]
    · refine ob_val (want_none rfl) (by kernel_rfl) (fun ph w' hp hm hw => ?_)
      have hc0 := (hw.cell (p := ⟨w.heap.size, 2, none⟩) hlt).trans c2
      have e10 : A.tmps[10]? = some (.pointer (some ⟨w.heap.size, 2, none⟩)) := hE.dst 7 _ 10 rfl rfl; simp [execOp, e10, hc0, go_sem]
    · refine ob_call (q := 2) (f := 30) (args := #[.int .i64 c]) (want_none rfl) (by kernel_rfl) (fun w' => by have e11 : A.tmps[11]? = some (.int .i64 c) := hE.dst 8 _ 11 rfl rfl; simp [e11, go_sem]) ?_
      intro w' hw
      refine (layNum_any c w').mono ?_
      rintro e w2 ⟨rfl, hb⟩
      exact ⟨rfl, hw.trans (hb.mono hw.size)⟩
    · refine ob_val (want_none rfl) (by kernel_rfl) (fun ph w' hp hm hw => ?_)
      have e9 : A.tmps[9]? = some (.string (tx (layN a ++ layN b))) := hE.dst 6 _ 9 rfl rfl; have e12 : A.tmps[12]? = some (.string (tx (layN c))) := hE.dst 9 _ 12 rfl rfl; simp [execOp, e9, e12, r1, tx_app, go_sem]
    · refine ob_val (want_none rfl) (by kernel_rfl) (fun ph w' hp hm hw => ?_)
      have e13 : A.tmps[13]? = some (.string (tx (layN a ++ layN b ++ layN c))) := hE.dst 10 _ 13 rfl rfl; simp [execOp, e13, go_sem]
  · intro w' hw
    simp only [laid, Act.put, List.setIfInBounds_toArray, List.set_cons_succ, List.set_cons_zero, List.getD_cons_succ, List.getD_cons_zero, Nat.zero_add, Nat.reduceAdd]
    go_wp2_with fail
    go_ret
    exact ⟨rfl, B.trans (hw.mono B.size)⟩
set_option maxRecDepth 100000 in
theorem refPrint_any (a b : Int) (w : World) : Calls Try.prog 20 #[vM a b] w fun e W' => e = .returned (.string (tx (layM a b))) ∧ Below w.heap.size w W' := by
  go_enter Try.func20, Try.ntmps20
  go_wp2_with fail
  obtain ⟨W0, hW0, hlt, B, c0, c1⟩ : ∃ W0, w.alloc (.cells #[.int .i64 a, .int .i64 b] 24) = W0 ∧ w.heap.size < W0.heap.size ∧ Below w.heap.size w W0 ∧ W0.cell? ⟨w.heap.size, 0, none⟩ = some (.int .i64 a) ∧ W0.cell? ⟨w.heap.size, 1, none⟩ = some (.int .i64 b) := ⟨_, rfl, by simp, below_new _ _, by simp, by simp⟩
  rw [hW0]
  clear hW0
  have r0 := tx_room (a := layN a) (b := layN b) (by simp [layN_length])
  refine wp_region_plan (fun i => ([.pointer (some ⟨w.heap.size, 0, none⟩), .int .i64 a, .string (tx (layN a)), .pointer (some ⟨w.heap.size, 1, none⟩), .int .i64 b, .string (tx (layN b)), .string (tx (layN a ++ layN b)), .string (tx (layN a ++ layN b))] : List Value).getD i undef) [2, 5] [0, 0, 0, 0, 0, 1, 2, 2] (fun _ w' => Below W0.heap.size W0 w') (by kernel_rfl) (by kernel_rfl) (⟨rfl, rfl, rfl, Nat.le_refl _, fun _ _ => rfl⟩) ?_ ?_
  · refine Obs_of_ends (by kernel_rfl) ?_
    intro A hE
    refine ⟨?_, ?_, ?_, ?_, ?_, ?_, ?_, ?_, trivial⟩
    · refine ob_val (want_none rfl) (by kernel_rfl) (fun ph w' hp hm hw => ?_)
      have e1 : A.tmps[1]? = some (.pointer (some ⟨w.heap.size, 0, none⟩)) := at_out hE (d := 1) (by kernel_rfl); simp [execOp, e1, go_sem]
    · refine ob_val (want_none rfl) (by kernel_rfl) (fun ph w' hp hm hw => ?_)
      have hc0 := (hw.cell (p := ⟨w.heap.size, 0, none⟩) hlt).trans c0
      have e3 : A.tmps[3]? = some (.pointer (some ⟨w.heap.size, 0, none⟩)) := hE.dst 0 _ 3 rfl rfl; simp [execOp, e3, hc0, go_sem]
    · refine ob_call (q := 0) (f := 31) (args := #[.int .i64 a]) (want_none rfl) (by kernel_rfl) (fun w' => by have e4 : A.tmps[4]? = some (.int .i64 a) := hE.dst 1 _ 4 rfl rfl; simp [e4, go_sem]) ?_
      intro w' hw
      refine (refLayNum_any a w').mono ?_
      rintro e w2 ⟨rfl, hb⟩
      exact ⟨rfl, hw.trans (hb.mono hw.size)⟩
    · refine ob_val (want_none rfl) (by kernel_rfl) (fun ph w' hp hm hw => ?_)
      have e1 : A.tmps[1]? = some (.pointer (some ⟨w.heap.size, 0, none⟩)) := at_out hE (d := 1) (by kernel_rfl); simp [execOp, e1, go_sem]
    · refine ob_val (want_none rfl) (by kernel_rfl) (fun ph w' hp hm hw => ?_)
      have hc0 := (hw.cell (p := ⟨w.heap.size, 1, none⟩) hlt).trans c1
      have e6 : A.tmps[6]? = some (.pointer (some ⟨w.heap.size, 1, none⟩)) := hE.dst 3 _ 6 rfl rfl; simp [execOp, e6, hc0, go_sem]
    · refine ob_call (q := 1) (f := 31) (args := #[.int .i64 b]) (want_none rfl) (by kernel_rfl) (fun w' => by have e7 : A.tmps[7]? = some (.int .i64 b) := hE.dst 4 _ 7 rfl rfl; simp [e7, go_sem]) ?_
      intro w' hw
      refine (refLayNum_any b w').mono ?_
      rintro e w2 ⟨rfl, hb⟩
      exact ⟨rfl, hw.trans (hb.mono hw.size)⟩
    · refine ob_val (want_none rfl) (by kernel_rfl) (fun ph w' hp hm hw => ?_)
      have e5 : A.tmps[5]? = some (.string (tx (layN a))) := hE.dst 2 _ 5 rfl rfl; have e8 : A.tmps[8]? = some (.string (tx (layN b))) := hE.dst 5 _ 8 rfl rfl; simp [execOp, e5, e8, r0, tx_app, go_sem]
    · refine ob_val (want_none rfl) (by kernel_rfl) (fun ph w' hp hm hw => ?_)
      have e9 : A.tmps[9]? = some (.string (tx (layN a ++ layN b))) := hE.dst 6 _ 9 rfl rfl; simp [execOp, e9, go_sem]
  · intro w' hw
    simp only [laid, Act.put, List.setIfInBounds_toArray, List.set_cons_succ, List.set_cons_zero, List.getD_cons_succ, List.getD_cons_zero, Nat.zero_add, Nat.reduceAdd]
    go_wp2_with fail
    go_ret
    exact ⟨rfl, B.trans (hw.mono B.size)⟩
set_option maxRecDepth 100000 in
theorem refPrintId_any (a b c : Int) (w : World) : Calls Try.prog 22 #[vV a b c] w fun e W' => e = .returned (.string (tx (layV a b c))) ∧ Below w.heap.size w W' := by
  go_enter Try.func22, Try.ntmps22
  go_wp2_with fail
  obtain ⟨W0, hW0, hlt, B, c0, c1, c2⟩ : ∃ W0, w.alloc (.cells #[.int .i64 a, .int .i64 b, .int .i64 c] 26) = W0 ∧ w.heap.size < W0.heap.size ∧ Below w.heap.size w W0 ∧ W0.cell? ⟨w.heap.size, 0, none⟩ = some (.int .i64 a) ∧ W0.cell? ⟨w.heap.size, 1, none⟩ = some (.int .i64 b) ∧ W0.cell? ⟨w.heap.size, 2, none⟩ = some (.int .i64 c) := ⟨_, rfl, by simp, below_new _ _, by simp, by simp, by simp⟩
  rw [hW0]
  clear hW0
  have r0 := tx_room (a := layN a) (b := layN b) (by simp [layN_length])
  have r1 := tx_room (a := layN a ++ layN b) (b := layN c) (by simp [layN_length])
  refine wp_region_plan (fun i => ([.pointer (some ⟨w.heap.size, 0, none⟩), .int .i64 a, .string (tx (layN a)), .pointer (some ⟨w.heap.size, 1, none⟩), .int .i64 b, .string (tx (layN b)), .string (tx (layN a ++ layN b)), .pointer (some ⟨w.heap.size, 2, none⟩), .int .i64 c, .string (tx (layN c)), .string (tx (layN a ++ layN b ++ layN c)), .string (tx (layN a ++ layN b ++ layN c))] : List Value).getD i undef) [2, 5, 9] [0, 0, 0, 0, 0, 1, 2, 0, 0, 2, 3, 3] (fun _ w' => Below W0.heap.size W0 w') (by kernel_rfl) (by kernel_rfl) (⟨rfl, rfl, rfl, Nat.le_refl _, fun _ _ => rfl⟩) ?_ ?_
  · refine Obs_of_ends (by kernel_rfl) ?_
    intro A hE
    refine ⟨?_, ?_, ?_, ?_, ?_, ?_, ?_, ?_, ?_, ?_, ?_, ?_, trivial⟩
    · refine ob_val (want_none rfl) (by kernel_rfl) (fun ph w' hp hm hw => ?_)
      have e1 : A.tmps[1]? = some (.pointer (some ⟨w.heap.size, 0, none⟩)) := at_out hE (d := 1) (by kernel_rfl); simp [execOp, e1, go_sem]
    · refine ob_val (want_none rfl) (by kernel_rfl) (fun ph w' hp hm hw => ?_)
      have hc0 := (hw.cell (p := ⟨w.heap.size, 0, none⟩) hlt).trans c0
      have e3 : A.tmps[3]? = some (.pointer (some ⟨w.heap.size, 0, none⟩)) := hE.dst 0 _ 3 rfl rfl; simp [execOp, e3, hc0, go_sem]
    · refine ob_call (q := 0) (f := 31) (args := #[.int .i64 a]) (want_none rfl) (by kernel_rfl) (fun w' => by have e4 : A.tmps[4]? = some (.int .i64 a) := hE.dst 1 _ 4 rfl rfl; simp [e4, go_sem]) ?_
      intro w' hw
      refine (refLayNum_any a w').mono ?_
      rintro e w2 ⟨rfl, hb⟩
      exact ⟨rfl, hw.trans (hb.mono hw.size)⟩
    · refine ob_val (want_none rfl) (by kernel_rfl) (fun ph w' hp hm hw => ?_)
      have e1 : A.tmps[1]? = some (.pointer (some ⟨w.heap.size, 0, none⟩)) := at_out hE (d := 1) (by kernel_rfl); simp [execOp, e1, go_sem]
    · refine ob_val (want_none rfl) (by kernel_rfl) (fun ph w' hp hm hw => ?_)
      have hc0 := (hw.cell (p := ⟨w.heap.size, 1, none⟩) hlt).trans c1
      have e6 : A.tmps[6]? = some (.pointer (some ⟨w.heap.size, 1, none⟩)) := hE.dst 3 _ 6 rfl rfl; simp [execOp, e6, hc0, go_sem]
    · refine ob_call (q := 1) (f := 31) (args := #[.int .i64 b]) (want_none rfl) (by kernel_rfl) (fun w' => by have e7 : A.tmps[7]? = some (.int .i64 b) := hE.dst 4 _ 7 rfl rfl; simp [e7, go_sem]) ?_
      intro w' hw
      refine (refLayNum_any b w').mono ?_
      rintro e w2 ⟨rfl, hb⟩
      exact ⟨rfl, hw.trans (hb.mono hw.size)⟩
    · refine ob_val (want_none rfl) (by kernel_rfl) (fun ph w' hp hm hw => ?_)
      have e5 : A.tmps[5]? = some (.string (tx (layN a))) := hE.dst 2 _ 5 rfl rfl; have e8 : A.tmps[8]? = some (.string (tx (layN b))) := hE.dst 5 _ 8 rfl rfl; simp [execOp, e5, e8, r0, tx_app, go_sem]
    · refine ob_val (want_none rfl) (by kernel_rfl) (fun ph w' hp hm hw => ?_)
      have e1 : A.tmps[1]? = some (.pointer (some ⟨w.heap.size, 0, none⟩)) := at_out hE (d := 1) (by kernel_rfl); simp [execOp, e1, go_sem]
    · refine ob_val (want_none rfl) (by kernel_rfl) (fun ph w' hp hm hw => ?_)
      have hc0 := (hw.cell (p := ⟨w.heap.size, 2, none⟩) hlt).trans c2
      have e10 : A.tmps[10]? = some (.pointer (some ⟨w.heap.size, 2, none⟩)) := hE.dst 7 _ 10 rfl rfl; simp [execOp, e10, hc0, go_sem]
    · refine ob_call (q := 2) (f := 31) (args := #[.int .i64 c]) (want_none rfl) (by kernel_rfl) (fun w' => by have e11 : A.tmps[11]? = some (.int .i64 c) := hE.dst 8 _ 11 rfl rfl; simp [e11, go_sem]) ?_
      intro w' hw
      refine (refLayNum_any c w').mono ?_
      rintro e w2 ⟨rfl, hb⟩
      exact ⟨rfl, hw.trans (hb.mono hw.size)⟩
    · refine ob_val (want_none rfl) (by kernel_rfl) (fun ph w' hp hm hw => ?_)
      have e9 : A.tmps[9]? = some (.string (tx (layN a ++ layN b))) := hE.dst 6 _ 9 rfl rfl; have e12 : A.tmps[12]? = some (.string (tx (layN c))) := hE.dst 9 _ 12 rfl rfl; simp [execOp, e9, e12, r1, tx_app, go_sem]
    · refine ob_val (want_none rfl) (by kernel_rfl) (fun ph w' hp hm hw => ?_)
      have e13 : A.tmps[13]? = some (.string (tx (layN a ++ layN b ++ layN c))) := hE.dst 10 _ 13 rfl rfl; simp [execOp, e13, go_sem]
  · intro w' hw
    simp only [laid, Act.put, List.setIfInBounds_toArray, List.set_cons_succ, List.set_cons_zero, List.getD_cons_succ, List.getD_cons_zero, Nat.zero_add, Nat.reduceAdd]
    go_wp2_with fail
    go_ret
    exact ⟨rfl, B.trans (hw.mono B.size)⟩
end Go.Proofs.Ytbjefnboppfnaaa
