/- The bytes of members and of views' ids; lodge/member's and the document's. No condition. -/
import Derived.Test.YtgnebmandifhiaaMem
import Derived.Test.YtgnebmandifhiaaPhase
namespace Go.Proofs.Ytgnebmandifhiaa
open Go.RowKit
set_option linter.unusedVariables false

set_option maxRecDepth 100000 in
theorem print_any (a b : Int) (w : World) : Calls Try.prog 49 #[vM a b] w fun e W' => e = .returned (.string (tx (layM a b))) ∧ Below w.heap.size w W' := by
  go_enter Try.func49, Try.ntmps49
  go_wp2_with fail
  obtain ⟨W0, hW0, hlt, B, c0, c1⟩ : ∃ W0, w.alloc (.cells #[.int .i64 a, .int .i64 b] 44) = W0 ∧ w.heap.size < W0.heap.size ∧ Below w.heap.size w W0 ∧ W0.cell? ⟨w.heap.size, 0, none⟩ = some (.int .i64 a) ∧ W0.cell? ⟨w.heap.size, 1, none⟩ = some (.int .i64 b) := ⟨_, rfl, by simp, below_new _ _, by simp, by simp⟩
  rw [hW0]
  clear hW0
  have r0 := tx_room (a := layN a) (b := layN b) (by simp [layN_length])
  refine wp_region_plan (fun i => ([.pointer (some ⟨w.heap.size, 0, none⟩), .int .i64 a, .string (tx (layN a)), .pointer (some ⟨w.heap.size, 1, none⟩), .int .i64 b, .string (tx (layN b)), .string (tx (layN a ++ layN b)), .string (tx (layN a ++ layN b))] : List Value).getD i undef) [2, 5] [0, 0, 0, 0, 0, 1, 2, 2] (fun _ w' => Below W0.heap.size W0 w') (by kernel_rfl) (by kernel_rfl) (⟨rfl, rfl, rfl, Nat.le_refl _, fun _ _ => rfl⟩) ?_ ?_
  · refine Obs_of_ends (by kernel_rfl) ?_
    intro A hE
    refine ⟨?_, ?_, ?_, ?_, ?_, ?_, ?_, ?_, trivial⟩
    · refine ob_val (want_none rfl) (by kernel_rfl) (fun ph w' hp hm hw => ?_)
      have e1 : A.tmps[1]? = some (.pointer (some ⟨w.heap.size, 0, none⟩)) := at_out hE (d := 1) (by kernel_rfl); simp [execOp, e1, go_sem]
    · refine ob_val (want_none rfl) (by kernel_rfl) (fun ph w' hp hm hw => ?_)
      have hc0 := (hw.cell (p := ⟨w.heap.size, 0, none⟩) hlt).trans c0
      have e3 : A.tmps[3]? = some (.pointer (some ⟨w.heap.size, 0, none⟩)) := hE.dst 0 _ 3 rfl rfl; simp [execOp, e3, hc0, go_sem]
    · refine ob_call (q := 0) (f := 35) (args := #[.int .i64 a]) (want_none rfl) (by kernel_rfl) (fun w' => by have e4 : A.tmps[4]? = some (.int .i64 a) := hE.dst 1 _ 4 rfl rfl; simp [e4, go_sem]) ?_
      intro w' hw
      refine (layNum_any a w').mono ?_
      rintro e w2 ⟨rfl, hb⟩
      exact ⟨rfl, hw.trans (hb.mono hw.size)⟩
    · refine ob_val (want_none rfl) (by kernel_rfl) (fun ph w' hp hm hw => ?_)
      have e1 : A.tmps[1]? = some (.pointer (some ⟨w.heap.size, 0, none⟩)) := at_out hE (d := 1) (by kernel_rfl); simp [execOp, e1, go_sem]
    · refine ob_val (want_none rfl) (by kernel_rfl) (fun ph w' hp hm hw => ?_)
      have hc0 := (hw.cell (p := ⟨w.heap.size, 1, none⟩) hlt).trans c1
      have e6 : A.tmps[6]? = some (.pointer (some ⟨w.heap.size, 1, none⟩)) := hE.dst 3 _ 6 rfl rfl; simp [execOp, e6, hc0, go_sem]
    · refine ob_call (q := 1) (f := 35) (args := #[.int .i64 b]) (want_none rfl) (by kernel_rfl) (fun w' => by have e7 : A.tmps[7]? = some (.int .i64 b) := hE.dst 4 _ 7 rfl rfl; simp [e7, go_sem]) ?_
      intro w' hw
      refine (layNum_any b w').mono ?_
      rintro e w2 ⟨rfl, hb⟩
      exact ⟨rfl, hw.trans (hb.mono hw.size)⟩
    · refine ob_val (want_none rfl) (by kernel_rfl) (fun ph w' hp hm hw => ?_)
      have e5 : A.tmps[5]? = some (.string (tx (layN a))) := hE.dst 2 _ 5 rfl rfl; have e8 : A.tmps[8]? = some (.string (tx (layN b))) := hE.dst 5 _ 8 rfl rfl; simp [execOp, e5, e8, r0, tx_app, go_sem]
    · refine ob_val (want_none rfl) (by kernel_rfl) (fun ph w' hp hm hw => ?_)
      have e9 : A.tmps[9]? = some (.string (tx (layN a ++ layN b))) := hE.dst 6 _ 9 rfl rfl; simp [execOp, e9, go_sem]
  · intro w' hw
    simp only [laid, Act.put, List.setIfInBounds_toArray, List.set_cons_succ, List.set_cons_zero, List.getD_cons_succ, List.getD_cons_zero, Nat.zero_add, Nat.reduceAdd]
    go_wp2_with fail
    go_ret
    exact ⟨rfl, B.trans (hw.mono B.size)⟩
set_option maxRecDepth 100000 in
theorem refPrint_any (a b : Int) (w : World) : Calls Try.prog 39 #[vM a b] w fun e W' => e = .returned (.string (tx (layM a b))) ∧ Below w.heap.size w W' := by
  go_enter Try.func39, Try.ntmps39
  go_wp2_with fail
  obtain ⟨W0, hW0, hlt, B, c0, c1⟩ : ∃ W0, w.alloc (.cells #[.int .i64 a, .int .i64 b] 44) = W0 ∧ w.heap.size < W0.heap.size ∧ Below w.heap.size w W0 ∧ W0.cell? ⟨w.heap.size, 0, none⟩ = some (.int .i64 a) ∧ W0.cell? ⟨w.heap.size, 1, none⟩ = some (.int .i64 b) := ⟨_, rfl, by simp, below_new _ _, by simp, by simp⟩
  rw [hW0]
  clear hW0
  have r0 := tx_room (a := layN a) (b := layN b) (by simp [layN_length])
  refine wp_region_plan (fun i => ([.pointer (some ⟨w.heap.size, 0, none⟩), .int .i64 a, .string (tx (layN a)), .pointer (some ⟨w.heap.size, 1, none⟩), .int .i64 b, .string (tx (layN b)), .string (tx (layN a ++ layN b)), .string (tx (layN a ++ layN b))] : List Value).getD i undef) [2, 5] [0, 0, 0, 0, 0, 1, 2, 2] (fun _ w' => Below W0.heap.size W0 w') (by kernel_rfl) (by kernel_rfl) (⟨rfl, rfl, rfl, Nat.le_refl _, fun _ _ => rfl⟩) ?_ ?_
  · refine Obs_of_ends (by kernel_rfl) ?_
    intro A hE
    refine ⟨?_, ?_, ?_, ?_, ?_, ?_, ?_, ?_, trivial⟩
    · refine ob_val (want_none rfl) (by kernel_rfl) (fun ph w' hp hm hw => ?_)
      have e1 : A.tmps[1]? = some (.pointer (some ⟨w.heap.size, 0, none⟩)) := at_out hE (d := 1) (by kernel_rfl); simp [execOp, e1, go_sem]
    · refine ob_val (want_none rfl) (by kernel_rfl) (fun ph w' hp hm hw => ?_)
      have hc0 := (hw.cell (p := ⟨w.heap.size, 0, none⟩) hlt).trans c0
      have e3 : A.tmps[3]? = some (.pointer (some ⟨w.heap.size, 0, none⟩)) := hE.dst 0 _ 3 rfl rfl; simp [execOp, e3, hc0, go_sem]
    · refine ob_call (q := 0) (f := 38) (args := #[.int .i64 a]) (want_none rfl) (by kernel_rfl) (fun w' => by have e4 : A.tmps[4]? = some (.int .i64 a) := hE.dst 1 _ 4 rfl rfl; simp [e4, go_sem]) ?_
      intro w' hw
      refine (refLayNum_any a w').mono ?_
      rintro e w2 ⟨rfl, hb⟩
      exact ⟨rfl, hw.trans (hb.mono hw.size)⟩
    · refine ob_val (want_none rfl) (by kernel_rfl) (fun ph w' hp hm hw => ?_)
      have e1 : A.tmps[1]? = some (.pointer (some ⟨w.heap.size, 0, none⟩)) := at_out hE (d := 1) (by kernel_rfl); simp [execOp, e1, go_sem]
    · refine ob_val (want_none rfl) (by kernel_rfl) (fun ph w' hp hm hw => ?_)
      have hc0 := (hw.cell (p := ⟨w.heap.size, 1, none⟩) hlt).trans c1
      have e6 : A.tmps[6]? = some (.pointer (some ⟨w.heap.size, 1, none⟩)) := hE.dst 3 _ 6 rfl rfl; simp [execOp, e6, hc0, go_sem]
    · refine ob_call (q := 1) (f := 38) (args := #[.int .i64 b]) (want_none rfl) (by kernel_rfl) (fun w' => by have e7 : A.tmps[7]? = some (.int .i64 b) := hE.dst 4 _ 7 rfl rfl; simp [e7, go_sem]) ?_
      intro w' hw
      refine (refLayNum_any b w').mono ?_
      rintro e w2 ⟨rfl, hb⟩
      exact ⟨rfl, hw.trans (hb.mono hw.size)⟩
    · refine ob_val (want_none rfl) (by kernel_rfl) (fun ph w' hp hm hw => ?_)
      have e5 : A.tmps[5]? = some (.string (tx (layN a))) := hE.dst 2 _ 5 rfl rfl; have e8 : A.tmps[8]? = some (.string (tx (layN b))) := hE.dst 5 _ 8 rfl rfl; simp [execOp, e5, e8, r0, tx_app, go_sem]
    · refine ob_val (want_none rfl) (by kernel_rfl) (fun ph w' hp hm hw => ?_)
      have e9 : A.tmps[9]? = some (.string (tx (layN a ++ layN b))) := hE.dst 6 _ 9 rfl rfl; simp [execOp, e9, go_sem]
  · intro w' hw
    simp only [laid, Act.put, List.setIfInBounds_toArray, List.set_cons_succ, List.set_cons_zero, List.getD_cons_succ, List.getD_cons_zero, Nat.zero_add, Nat.reduceAdd]
    go_wp2_with fail
    go_ret
    exact ⟨rfl, B.trans (hw.mono B.size)⟩
end Go.Proofs.Ytgnebmandifhiaa
