/- lodgelaw08.MemberReads answers true, whatever text comes in, and leaves memory below as it was. No condition. -/
import Derived.Test.YtbjefnboppfnaaaAwake8
namespace Go.Proofs.Ytbjefnboppfnaaa
open Go.RowKit
set_option linter.unusedVariables false

set_option maxRecDepth 100000 in
set_option maxHeartbeats 8000000 in
theorem memberReads_big (s : List UInt8) (id : Bool) (w : World) (h : ¬ s.length ≤ 100) :
    Calls Try.prog 4 #[.string (tx s), .bool id] w fun e w' => e = .returned (.bool true) ∧ Below w.heap.size w w' := by
  have hs : (tx s).size = s.length := tx_size s
  have d0 : decide (100 < (s.length : Int)) = true := decide_eq_true (by omega)
  go_enter Try.func4, Try.ntmps4
  go_wp2_with fail
  refine (awake8_any _).mono ?_
  rintro e W1 ⟨rfl, hb⟩
  go_wp2
  go_ret
  exact ⟨rfl, hb⟩

theorem lefts_new (w : World) (s : List UInt8) (t u : TypeId) (h : s.length ≤ 100) : ∃ W, (w.alloc (.cells #[.string (tx s), .bool false] t)).alloc (.cells #[.string (tx s), .bool false] u) = W ∧ At W w.heap.size 100 (some s) ∧ At W (w.heap.size + 1) 100 (some s) ∧ Below w.heap.size w W := by
  have ha := leftAt_new w (tx s) s t rfl
  have hba := below_new w (.cells #[.string (tx s), .bool false] t)
  have hz : (w.alloc (.cells #[.string (tx s), .bool false] t)).heap.size = w.heap.size + 1 := by simp
  have hb := leftAt_new (w.alloc (.cells #[.string (tx s), .bool false] t)) (tx s) s u rfl
  have hbb := below_new (w.alloc (.cells #[.string (tx s), .bool false] t)) (.cells #[.string (tx s), .bool false] u)
  rw [hz] at hb
  exact ⟨_, rfl, ⟨ha.next hbb, h⟩, ⟨hb, h⟩, hba.trans (hbb.mono (by omega))⟩

set_option maxRecDepth 100000 in
set_option maxHeartbeats 8000000 in
theorem memberReads_idBad (s : List UInt8) (w : World) (h : s.length ≤ 100) (hst : idSt (some s) = none) :
    Calls Try.prog 4 #[.string (tx s), .bool true] w fun e w' => e = .returned (.bool true) ∧ Below w.heap.size w w' := by
  have hs : (tx s).size = s.length := tx_size s
  have d0 : decide (100 < (s.length : Int)) = false := decide_eq_false (by omega)
  go_enter Try.func4, Try.ntmps4
  go_wp2_with fail
  obtain ⟨W0, hW0, hA, hB, B⟩ := lefts_new w s 37 39 h
  rw [hW0]
  clear hW0
  refine wp_region_plan (fun i => ([.bool true, .bool true, .pointer (some ⟨w.heap.size, 0, none⟩), vV (idOf (some s)).1 (idOf (some s)).2.1 (idOf (some s)).2.2, .pointer (some ⟨w.heap.size + 1, 0, none⟩), vV (idOf (some s)).1 (idOf (some s)).2.1 (idOf (some s)).2.2, .bool true, .bool true, .bool true, .pointer (some ⟨w.heap.size, 0, none⟩), .pointer (some ⟨w.heap.size, 0, none⟩), .pointer (some ⟨w.heap.size, 1, none⟩), .bool true, .pointer (some ⟨w.heap.size + 1, 0, none⟩), .pointer (some ⟨w.heap.size + 1, 0, none⟩), .pointer (some ⟨w.heap.size + 1, 1, none⟩), .bool true, .bool true, .bool true, .bool true, .pointer (some ⟨w.heap.size, 0, none⟩), .pointer (some ⟨w.heap.size, 0, none⟩), .pointer (some ⟨w.heap.size, 1, none⟩), .bool true, .bool true, undef, undef, undef, undef, undef, undef, undef, undef, undef, .bool true, .bool true, .bool true] : List Value).getD i undef) [0, 3, 5] [0, 1, 1, 1, 1, 2, 3, 3, 3, 3, 3, 3, 3, 3, 3, 3, 3, 3, 3, 3, 3, 3, 3, 3, 3, 3, 3, 3, 3, 3, 3, 3, 3, 3, 3, 3, 3] (fun ph w' => Below w.heap.size w w' ∧ At w' w.heap.size 100 (if 2 ≤ ph then none else some s) ∧ At w' (w.heap.size + 1) 100 (if 3 ≤ ph then none else some s)) (by kernel_rfl) (by kernel_rfl) (⟨B.drew, hA.keep rfl, hB.keep rfl⟩) ?_ ?_
  · refine Obs_of_ends (by kernel_rfl) ?_
    intro Fr hEA
    refine ⟨?_, ?_, ?_, ?_, ?_, ?_, ?_, ?_, ?_, ?_, ?_, ?_, ?_, ?_, ?_, ?_, ?_, ?_, ?_, ?_, ?_, ?_, ?_, ?_, ?_, ?_, ?_, ?_, ?_, ?_, ?_, ?_, ?_, ?_, ?_, ?_, ?_, trivial⟩
    · refine ob_call (q := 0) (f := 8) (args := #[]) (want_none rfl) (by kernel_rfl) (fun w' => by simp [go_sem]) ?_
      rintro w' ⟨hb', ha', hb2⟩
      refine (awake8_any w').mono ?_
      rintro e w2 ⟨rfl, hb⟩
      exact ⟨rfl, hb'.trans (hb.mono hb'.size), ha'.next hb, hb2.next hb⟩
    · exact ob_move _ rfl (want_none rfl) (by kernel_rfl) (eval_dst hEA (j := 0) rfl rfl)
    · exact ob_move _ rfl (want_is hEA (g := 1) (x := true) (b := true) rfl rfl rfl rfl) (by kernel_rfl) (eval_out hEA (d := 5) (by kernel_rfl))
    · refine ob_call (q := 1) (f := 23) (args := #[.pointer (some ⟨w.heap.size, 0, none⟩)]) (want_is hEA (g := 1) (x := true) (b := true) rfl rfl rfl rfl) (by kernel_rfl) (fun w' => by have e20 : Fr.tmps[20]? = some (.pointer (some ⟨w.heap.size, 0, none⟩)) := hEA.dst 2 _ 20 rfl rfl; simp [e20, go_sem]) ?_
      rintro w' ⟨hb', ha', hb2⟩
      refine (readId_any w.heap.size 100 (some s) w' ha' (by decide)).mono ?_
      rintro e w2 ⟨rfl, h1, h2⟩
      exact ⟨rfl, hb'.trans (h2.below (Nat.le_refl _) hb'.size), hst ▸ h1, hb2.keep (h2.block _ hb2.lt (by omega))⟩
    · exact ob_move _ rfl (want_is hEA (g := 1) (x := true) (b := true) rfl rfl rfl rfl) (by kernel_rfl) (eval_out hEA (d := 6) (by kernel_rfl))
    · refine ob_call (q := 2) (f := 24) (args := #[.pointer (some ⟨w.heap.size + 1, 0, none⟩)]) (want_is hEA (g := 1) (x := true) (b := true) rfl rfl rfl rfl) (by kernel_rfl) (fun w' => by have e22 : Fr.tmps[22]? = some (.pointer (some ⟨w.heap.size + 1, 0, none⟩)) := hEA.dst 4 _ 22 rfl rfl; simp [e22, go_sem]) ?_
      rintro w' ⟨hb', ha', hb2⟩
      refine (refReadId_any (w.heap.size + 1) 100 (some s) w' hb2 (by decide)).mono ?_
      rintro e w2 ⟨rfl, h1, h2⟩
      exact ⟨rfl, hb'.trans (h2.below (by omega) hb'.size), ha'.keep (h2.block _ ha'.lt (by omega)), hst ▸ h1⟩
    · refine ob_val (want_is hEA (g := 1) (x := true) (b := true) rfl rfl rfl rfl) (by kernel_rfl) (fun ph w' hp hpm hw => ?_)
      have e21 : Fr.tmps[21]? = some (vV (idOf (some s)).1 (idOf (some s)).2.1 (idOf (some s)).2.2) := hEA.dst 3 _ 21 rfl rfl; have e23 : Fr.tmps[23]? = some (vV (idOf (some s)).1 (idOf (some s)).2.1 (idOf (some s)).2.2) := hEA.dst 5 _ 23 rfl rfl; simp [execOp, e21, e23, go_sem]
    · refine ob_val (want_none rfl) (by kernel_rfl) (fun ph w' hp hpm hw => ?_)
      have e19 : Fr.tmps[19]? = some (.bool true) := hEA.dst 1 _ 19 rfl rfl; have e24 : Fr.tmps[24]? = some (.bool true) := hEA.dst 6 _ 24 rfl rfl; simp [execOp, e19, e24, go_sem]
    · exact ob_move _ rfl (want_none rfl) (by kernel_rfl) (eval_dst hEA (j := 7) rfl rfl)
    · exact ob_move _ rfl (want_is hEA (g := 8) (x := true) (b := true) rfl rfl rfl rfl) (by kernel_rfl) (eval_out hEA (d := 5) (by kernel_rfl))
    · refine ob_val (want_is hEA (g := 8) (x := true) (b := true) rfl rfl rfl rfl) (by kernel_rfl) (fun ph w' hp hpm hw => ?_)
      have e27 : Fr.tmps[27]? = some (.pointer (some ⟨w.heap.size, 0, none⟩)) := hEA.dst 9 _ 27 rfl rfl; simp [execOp, e27, go_sem]
    · refine ob_val (want_is hEA (g := 8) (x := true) (b := true) rfl rfl rfl rfl) (by kernel_rfl) (fun ph w' hp hpm hw => ?_)
      have e28 : Fr.tmps[28]? = some (.pointer (some ⟨w.heap.size, 0, none⟩)) := hEA.dst 10 _ 28 rfl rfl; simp [execOp, e28, go_sem]
    · refine ob_val (want_is hEA (g := 8) (x := true) (b := true) rfl rfl rfl rfl) (by kernel_rfl) (fun ph w' hp hpm hw => ?_)
      have hc0 := (show w'.cell? ⟨w.heap.size, 1, none⟩ = some (.bool true) from (show At w' w.heap.size 100 none from by have h2 := hw.2.1; rwa [if_pos (show 2 ≤ ph from Nat.le_trans (by decide) hp)] at h2).bad)
      have e29 : Fr.tmps[29]? = some (.pointer (some ⟨w.heap.size, 1, none⟩)) := hEA.dst 11 _ 29 rfl rfl; simp [execOp, e29, hc0, go_sem]
    · exact ob_move _ rfl (want_is hEA (g := 8) (x := true) (b := true) rfl rfl rfl rfl) (by kernel_rfl) (eval_out hEA (d := 6) (by kernel_rfl))
    · refine ob_val (want_is hEA (g := 8) (x := true) (b := true) rfl rfl rfl rfl) (by kernel_rfl) (fun ph w' hp hpm hw => ?_)
      have e31 : Fr.tmps[31]? = some (.pointer (some ⟨w.heap.size + 1, 0, none⟩)) := hEA.dst 13 _ 31 rfl rfl; simp [execOp, e31, go_sem]
    · refine ob_val (want_is hEA (g := 8) (x := true) (b := true) rfl rfl rfl rfl) (by kernel_rfl) (fun ph w' hp hpm hw => ?_)
      have e32 : Fr.tmps[32]? = some (.pointer (some ⟨w.heap.size + 1, 0, none⟩)) := hEA.dst 14 _ 32 rfl rfl; simp [execOp, e32, go_sem]
    · refine ob_val (want_is hEA (g := 8) (x := true) (b := true) rfl rfl rfl rfl) (by kernel_rfl) (fun ph w' hp hpm hw => ?_)
      have hc0 := (show w'.cell? ⟨w.heap.size + 1, 1, none⟩ = some (.bool true) from (show At w' (w.heap.size + 1) 100 none from by have h2 := hw.2.2; rwa [if_pos (show 3 ≤ ph from Nat.le_trans (by decide) hp)] at h2).bad)
      have e33 : Fr.tmps[33]? = some (.pointer (some ⟨w.heap.size + 1, 1, none⟩)) := hEA.dst 15 _ 33 rfl rfl; simp [execOp, e33, hc0, go_sem]
    · refine ob_val (want_is hEA (g := 8) (x := true) (b := true) rfl rfl rfl rfl) (by kernel_rfl) (fun ph w' hp hpm hw => ?_)
      have e30 : Fr.tmps[30]? = some (.bool true) := hEA.dst 12 _ 30 rfl rfl; have e34 : Fr.tmps[34]? = some (.bool true) := hEA.dst 16 _ 34 rfl rfl; simp [execOp, e30, e34, go_sem]
    · refine ob_val (want_none rfl) (by kernel_rfl) (fun ph w' hp hpm hw => ?_)
      have e26 : Fr.tmps[26]? = some (.bool true) := hEA.dst 8 _ 26 rfl rfl; have e35 : Fr.tmps[35]? = some (.bool true) := hEA.dst 17 _ 35 rfl rfl; simp [execOp, e26, e35, go_sem]
    · exact ob_move _ rfl (want_none rfl) (by kernel_rfl) (eval_dst hEA (j := 18) rfl rfl)
    · exact ob_move _ rfl (want_is hEA (g := 19) (x := true) (b := true) rfl rfl rfl rfl) (by kernel_rfl) (eval_out hEA (d := 5) (by kernel_rfl))
    · refine ob_val (want_is hEA (g := 19) (x := true) (b := true) rfl rfl rfl rfl) (by kernel_rfl) (fun ph w' hp hpm hw => ?_)
      have e38 : Fr.tmps[38]? = some (.pointer (some ⟨w.heap.size, 0, none⟩)) := hEA.dst 20 _ 38 rfl rfl; simp [execOp, e38, go_sem]
    · refine ob_val (want_is hEA (g := 19) (x := true) (b := true) rfl rfl rfl rfl) (by kernel_rfl) (fun ph w' hp hpm hw => ?_)
      have e39 : Fr.tmps[39]? = some (.pointer (some ⟨w.heap.size, 0, none⟩)) := hEA.dst 21 _ 39 rfl rfl; simp [execOp, e39, go_sem]
    · refine ob_val (want_is hEA (g := 19) (x := true) (b := true) rfl rfl rfl rfl) (by kernel_rfl) (fun ph w' hp hpm hw => ?_)
      have hc0 := (show w'.cell? ⟨w.heap.size, 1, none⟩ = some (.bool true) from (show At w' w.heap.size 100 none from by have h2 := hw.2.1; rwa [if_pos (show 2 ≤ ph from Nat.le_trans (by decide) hp)] at h2).bad)
      have e40 : Fr.tmps[40]? = some (.pointer (some ⟨w.heap.size, 1, none⟩)) := hEA.dst 22 _ 40 rfl rfl; simp [execOp, e40, hc0, go_sem]
    · exact ob_move _ rfl (want_is hEA (g := 19) (x := true) (b := true) rfl rfl rfl rfl) (by kernel_rfl) (eval_dst hEA (j := 23) rfl rfl)
    · exact ob_skip (want_is hEA (g := 24) (x := true) (b := false) rfl rfl rfl rfl) (by kernel_rfl) rfl
    · exact ob_skip (want_is hEA (g := 24) (x := true) (b := false) rfl rfl rfl rfl) (by kernel_rfl) rfl
    · exact ob_skip (want_is hEA (g := 24) (x := true) (b := false) rfl rfl rfl rfl) (by kernel_rfl) rfl
    · exact ob_skip (want_is hEA (g := 24) (x := true) (b := false) rfl rfl rfl rfl) (by kernel_rfl) rfl
    · exact ob_skip (want_is hEA (g := 24) (x := true) (b := false) rfl rfl rfl rfl) (by kernel_rfl) rfl
    · exact ob_skip (want_is hEA (g := 24) (x := true) (b := false) rfl rfl rfl rfl) (by kernel_rfl) rfl
    · exact ob_skip (want_is hEA (g := 24) (x := true) (b := false) rfl rfl rfl rfl) (by kernel_rfl) rfl
    · exact ob_skip (want_is hEA (g := 24) (x := true) (b := false) rfl rfl rfl rfl) (by kernel_rfl) rfl
    · exact ob_skip (want_is hEA (g := 24) (x := true) (b := false) rfl rfl rfl rfl) (by kernel_rfl) rfl
    · refine ob_val (want_is hEA (g := 19) (x := true) (b := true) rfl rfl rfl rfl) (by kernel_rfl) (fun ph w' hp hpm hw => ?_)
      have e42 : Fr.tmps[42]? = some (.bool true) := hEA.dst 24 _ 42 rfl rfl; have e51 : Fr.tmps[51]? = some (undef) := hEA.dst 33 _ 51 rfl rfl; simp [execOp, e42, e51, go_sem]
    · refine ob_val (want_none rfl) (by kernel_rfl) (fun ph w' hp hpm hw => ?_)
      have e37 : Fr.tmps[37]? = some (.bool true) := hEA.dst 19 _ 37 rfl rfl; have e52 : Fr.tmps[52]? = some (.bool true) := hEA.dst 34 _ 52 rfl rfl; simp [execOp, e37, e52, go_sem]
    · refine ob_val (want_none rfl) (by kernel_rfl) (fun ph w' hp hpm hw => ?_)
      have e53 : Fr.tmps[53]? = some (.bool true) := hEA.dst 35 _ 53 rfl rfl; simp [execOp, e53, go_sem]
  · intro w' hw
    simp only [laid, Act.put, List.setIfInBounds_toArray, List.set_cons_succ, List.set_cons_zero, List.getD_cons_succ, List.getD_cons_zero, Nat.zero_add, Nat.reduceAdd]
    go_wp2_with fail
    go_ret
    exact ⟨rfl, hw.1⟩

set_option maxRecDepth 100000 in
set_option maxHeartbeats 8000000 in
theorem memberReads_idGood (s r : List UInt8) (w : World) (h : s.length ≤ 100) (hst : idSt (some s) = (some r)) :
    Calls Try.prog 4 #[.string (tx s), .bool true] w fun e w' => e = .returned (.bool true) ∧ Below w.heap.size w w' := by
  have hs : (tx s).size = s.length := tx_size s
  have d0 : decide (100 < (s.length : Int)) = false := decide_eq_false (by omega)
  go_enter Try.func4, Try.ntmps4
  go_wp2_with fail
  obtain ⟨W0, hW0, hA, hB, B⟩ := lefts_new w s 37 39 h
  rw [hW0]
  clear hW0
  refine wp_region_plan (fun i => ([.bool true, .bool true, .pointer (some ⟨w.heap.size, 0, none⟩), vV (idOf (some s)).1 (idOf (some s)).2.1 (idOf (some s)).2.2, .pointer (some ⟨w.heap.size + 1, 0, none⟩), vV (idOf (some s)).1 (idOf (some s)).2.1 (idOf (some s)).2.2, .bool true, .bool true, .bool true, .pointer (some ⟨w.heap.size, 0, none⟩), .pointer (some ⟨w.heap.size, 0, none⟩), .pointer (some ⟨w.heap.size, 1, none⟩), .bool false, .pointer (some ⟨w.heap.size + 1, 0, none⟩), .pointer (some ⟨w.heap.size + 1, 0, none⟩), .pointer (some ⟨w.heap.size + 1, 1, none⟩), .bool false, .bool true, .bool true, .bool true, .pointer (some ⟨w.heap.size, 0, none⟩), .pointer (some ⟨w.heap.size, 0, none⟩), .pointer (some ⟨w.heap.size, 1, none⟩), .bool false, .bool false, .pointer (some ⟨w.heap.size, 0, none⟩), .pointer (some ⟨w.heap.size, 0, none⟩), .pointer (some ⟨w.heap.size, 0, none⟩), .string (tx r), .pointer (some ⟨w.heap.size + 1, 0, none⟩), .pointer (some ⟨w.heap.size + 1, 0, none⟩), .pointer (some ⟨w.heap.size + 1, 0, none⟩), .string (tx r), .bool true, .bool true, .bool true, .bool true] : List Value).getD i undef) [0, 3, 5] [0, 1, 1, 1, 1, 2, 3, 3, 3, 3, 3, 3, 3, 3, 3, 3, 3, 3, 3, 3, 3, 3, 3, 3, 3, 3, 3, 3, 3, 3, 3, 3, 3, 3, 3, 3, 3] (fun ph w' => Below w.heap.size w w' ∧ At w' w.heap.size 100 (if 2 ≤ ph then (some r) else some s) ∧ At w' (w.heap.size + 1) 100 (if 3 ≤ ph then (some r) else some s)) (by kernel_rfl) (by kernel_rfl) (⟨B.drew, hA.keep rfl, hB.keep rfl⟩) ?_ ?_
  · refine Obs_of_ends (by kernel_rfl) ?_
    intro Fr hEA
    refine ⟨?_, ?_, ?_, ?_, ?_, ?_, ?_, ?_, ?_, ?_, ?_, ?_, ?_, ?_, ?_, ?_, ?_, ?_, ?_, ?_, ?_, ?_, ?_, ?_, ?_, ?_, ?_, ?_, ?_, ?_, ?_, ?_, ?_, ?_, ?_, ?_, ?_, trivial⟩
    · refine ob_call (q := 0) (f := 8) (args := #[]) (want_none rfl) (by kernel_rfl) (fun w' => by simp [go_sem]) ?_
      rintro w' ⟨hb', ha', hb2⟩
      refine (awake8_any w').mono ?_
      rintro e w2 ⟨rfl, hb⟩
      exact ⟨rfl, hb'.trans (hb.mono hb'.size), ha'.next hb, hb2.next hb⟩
    · exact ob_move _ rfl (want_none rfl) (by kernel_rfl) (eval_dst hEA (j := 0) rfl rfl)
    · exact ob_move _ rfl (want_is hEA (g := 1) (x := true) (b := true) rfl rfl rfl rfl) (by kernel_rfl) (eval_out hEA (d := 5) (by kernel_rfl))
    · refine ob_call (q := 1) (f := 23) (args := #[.pointer (some ⟨w.heap.size, 0, none⟩)]) (want_is hEA (g := 1) (x := true) (b := true) rfl rfl rfl rfl) (by kernel_rfl) (fun w' => by have e20 : Fr.tmps[20]? = some (.pointer (some ⟨w.heap.size, 0, none⟩)) := hEA.dst 2 _ 20 rfl rfl; simp [e20, go_sem]) ?_
      rintro w' ⟨hb', ha', hb2⟩
      refine (readId_any w.heap.size 100 (some s) w' ha' (by decide)).mono ?_
      rintro e w2 ⟨rfl, h1, h2⟩
      exact ⟨rfl, hb'.trans (h2.below (Nat.le_refl _) hb'.size), hst ▸ h1, hb2.keep (h2.block _ hb2.lt (by omega))⟩
    · exact ob_move _ rfl (want_is hEA (g := 1) (x := true) (b := true) rfl rfl rfl rfl) (by kernel_rfl) (eval_out hEA (d := 6) (by kernel_rfl))
    · refine ob_call (q := 2) (f := 24) (args := #[.pointer (some ⟨w.heap.size + 1, 0, none⟩)]) (want_is hEA (g := 1) (x := true) (b := true) rfl rfl rfl rfl) (by kernel_rfl) (fun w' => by have e22 : Fr.tmps[22]? = some (.pointer (some ⟨w.heap.size + 1, 0, none⟩)) := hEA.dst 4 _ 22 rfl rfl; simp [e22, go_sem]) ?_
      rintro w' ⟨hb', ha', hb2⟩
      refine (refReadId_any (w.heap.size + 1) 100 (some s) w' hb2 (by decide)).mono ?_
      rintro e w2 ⟨rfl, h1, h2⟩
      exact ⟨rfl, hb'.trans (h2.below (by omega) hb'.size), ha'.keep (h2.block _ ha'.lt (by omega)), hst ▸ h1⟩
    · refine ob_val (want_is hEA (g := 1) (x := true) (b := true) rfl rfl rfl rfl) (by kernel_rfl) (fun ph w' hp hpm hw => ?_)
      have e21 : Fr.tmps[21]? = some (vV (idOf (some s)).1 (idOf (some s)).2.1 (idOf (some s)).2.2) := hEA.dst 3 _ 21 rfl rfl; have e23 : Fr.tmps[23]? = some (vV (idOf (some s)).1 (idOf (some s)).2.1 (idOf (some s)).2.2) := hEA.dst 5 _ 23 rfl rfl; simp [execOp, e21, e23, go_sem]
    · refine ob_val (want_none rfl) (by kernel_rfl) (fun ph w' hp hpm hw => ?_)
      have e19 : Fr.tmps[19]? = some (.bool true) := hEA.dst 1 _ 19 rfl rfl; have e24 : Fr.tmps[24]? = some (.bool true) := hEA.dst 6 _ 24 rfl rfl; simp [execOp, e19, e24, go_sem]
    · exact ob_move _ rfl (want_none rfl) (by kernel_rfl) (eval_dst hEA (j := 7) rfl rfl)
    · exact ob_move _ rfl (want_is hEA (g := 8) (x := true) (b := true) rfl rfl rfl rfl) (by kernel_rfl) (eval_out hEA (d := 5) (by kernel_rfl))
    · refine ob_val (want_is hEA (g := 8) (x := true) (b := true) rfl rfl rfl rfl) (by kernel_rfl) (fun ph w' hp hpm hw => ?_)
      have e27 : Fr.tmps[27]? = some (.pointer (some ⟨w.heap.size, 0, none⟩)) := hEA.dst 9 _ 27 rfl rfl; simp [execOp, e27, go_sem]
    · refine ob_val (want_is hEA (g := 8) (x := true) (b := true) rfl rfl rfl rfl) (by kernel_rfl) (fun ph w' hp hpm hw => ?_)
      have e28 : Fr.tmps[28]? = some (.pointer (some ⟨w.heap.size, 0, none⟩)) := hEA.dst 10 _ 28 rfl rfl; simp [execOp, e28, go_sem]
    · refine ob_val (want_is hEA (g := 8) (x := true) (b := true) rfl rfl rfl rfl) (by kernel_rfl) (fun ph w' hp hpm hw => ?_)
      have hc0 := (show w'.cell? ⟨w.heap.size, 1, none⟩ = some (.bool false) from (show At w' w.heap.size 100 (some r) from by have h2 := hw.2.1; rwa [if_pos (show 2 ≤ ph from Nat.le_trans (by decide) hp)] at h2).bad)
      have e29 : Fr.tmps[29]? = some (.pointer (some ⟨w.heap.size, 1, none⟩)) := hEA.dst 11 _ 29 rfl rfl; simp [execOp, e29, hc0, go_sem]
    · exact ob_move _ rfl (want_is hEA (g := 8) (x := true) (b := true) rfl rfl rfl rfl) (by kernel_rfl) (eval_out hEA (d := 6) (by kernel_rfl))
    · refine ob_val (want_is hEA (g := 8) (x := true) (b := true) rfl rfl rfl rfl) (by kernel_rfl) (fun ph w' hp hpm hw => ?_)
      have e31 : Fr.tmps[31]? = some (.pointer (some ⟨w.heap.size + 1, 0, none⟩)) := hEA.dst 13 _ 31 rfl rfl; simp [execOp, e31, go_sem]
    · refine ob_val (want_is hEA (g := 8) (x := true) (b := true) rfl rfl rfl rfl) (by kernel_rfl) (fun ph w' hp hpm hw => ?_)
      have e32 : Fr.tmps[32]? = some (.pointer (some ⟨w.heap.size + 1, 0, none⟩)) := hEA.dst 14 _ 32 rfl rfl; simp [execOp, e32, go_sem]
    · refine ob_val (want_is hEA (g := 8) (x := true) (b := true) rfl rfl rfl rfl) (by kernel_rfl) (fun ph w' hp hpm hw => ?_)
      have hc0 := (show w'.cell? ⟨w.heap.size + 1, 1, none⟩ = some (.bool false) from (show At w' (w.heap.size + 1) 100 (some r) from by have h2 := hw.2.2; rwa [if_pos (show 3 ≤ ph from Nat.le_trans (by decide) hp)] at h2).bad)
      have e33 : Fr.tmps[33]? = some (.pointer (some ⟨w.heap.size + 1, 1, none⟩)) := hEA.dst 15 _ 33 rfl rfl; simp [execOp, e33, hc0, go_sem]
    · refine ob_val (want_is hEA (g := 8) (x := true) (b := true) rfl rfl rfl rfl) (by kernel_rfl) (fun ph w' hp hpm hw => ?_)
      have e30 : Fr.tmps[30]? = some (.bool false) := hEA.dst 12 _ 30 rfl rfl; have e34 : Fr.tmps[34]? = some (.bool false) := hEA.dst 16 _ 34 rfl rfl; simp [execOp, e30, e34, go_sem]
    · refine ob_val (want_none rfl) (by kernel_rfl) (fun ph w' hp hpm hw => ?_)
      have e26 : Fr.tmps[26]? = some (.bool true) := hEA.dst 8 _ 26 rfl rfl; have e35 : Fr.tmps[35]? = some (.bool true) := hEA.dst 17 _ 35 rfl rfl; simp [execOp, e26, e35, go_sem]
    · exact ob_move _ rfl (want_none rfl) (by kernel_rfl) (eval_dst hEA (j := 18) rfl rfl)
    · exact ob_move _ rfl (want_is hEA (g := 19) (x := true) (b := true) rfl rfl rfl rfl) (by kernel_rfl) (eval_out hEA (d := 5) (by kernel_rfl))
    · refine ob_val (want_is hEA (g := 19) (x := true) (b := true) rfl rfl rfl rfl) (by kernel_rfl) (fun ph w' hp hpm hw => ?_)
      have e38 : Fr.tmps[38]? = some (.pointer (some ⟨w.heap.size, 0, none⟩)) := hEA.dst 20 _ 38 rfl rfl; simp [execOp, e38, go_sem]
    · refine ob_val (want_is hEA (g := 19) (x := true) (b := true) rfl rfl rfl rfl) (by kernel_rfl) (fun ph w' hp hpm hw => ?_)
      have e39 : Fr.tmps[39]? = some (.pointer (some ⟨w.heap.size, 0, none⟩)) := hEA.dst 21 _ 39 rfl rfl; simp [execOp, e39, go_sem]
    · refine ob_val (want_is hEA (g := 19) (x := true) (b := true) rfl rfl rfl rfl) (by kernel_rfl) (fun ph w' hp hpm hw => ?_)
      have hc0 := (show w'.cell? ⟨w.heap.size, 1, none⟩ = some (.bool false) from (show At w' w.heap.size 100 (some r) from by have h2 := hw.2.1; rwa [if_pos (show 2 ≤ ph from Nat.le_trans (by decide) hp)] at h2).bad)
      have e40 : Fr.tmps[40]? = some (.pointer (some ⟨w.heap.size, 1, none⟩)) := hEA.dst 22 _ 40 rfl rfl; simp [execOp, e40, hc0, go_sem]
    · exact ob_move _ rfl (want_is hEA (g := 19) (x := true) (b := true) rfl rfl rfl rfl) (by kernel_rfl) (eval_dst hEA (j := 23) rfl rfl)
    · exact ob_move _ rfl (want_is hEA (g := 24) (x := false) (b := false) rfl rfl rfl rfl) (by kernel_rfl) (eval_out hEA (d := 5) (by kernel_rfl))
    · refine ob_val (want_is hEA (g := 24) (x := false) (b := false) rfl rfl rfl rfl) (by kernel_rfl) (fun ph w' hp hpm hw => ?_)
      have e43 : Fr.tmps[43]? = some (.pointer (some ⟨w.heap.size, 0, none⟩)) := hEA.dst 25 _ 43 rfl rfl; simp [execOp, e43, go_sem]
    · refine ob_val (want_is hEA (g := 24) (x := false) (b := false) rfl rfl rfl rfl) (by kernel_rfl) (fun ph w' hp hpm hw => ?_)
      have e44 : Fr.tmps[44]? = some (.pointer (some ⟨w.heap.size, 0, none⟩)) := hEA.dst 26 _ 44 rfl rfl; simp [execOp, e44, go_sem]
    · refine ob_val (want_is hEA (g := 24) (x := false) (b := false) rfl rfl rfl rfl) (by kernel_rfl) (fun ph w' hp hpm hw => ?_)
      have hc0 := (show At w' w.heap.size 100 (some r) from by have h2 := hw.2.1; rwa [if_pos (show 2 ≤ ph from Nat.le_trans (by decide) hp)] at h2).1.s
      have e45 : Fr.tmps[45]? = some (.pointer (some ⟨w.heap.size, 0, none⟩)) := hEA.dst 27 _ 45 rfl rfl; simp [execOp, e45, hc0, go_sem]
    · exact ob_move _ rfl (want_is hEA (g := 24) (x := false) (b := false) rfl rfl rfl rfl) (by kernel_rfl) (eval_out hEA (d := 6) (by kernel_rfl))
    · refine ob_val (want_is hEA (g := 24) (x := false) (b := false) rfl rfl rfl rfl) (by kernel_rfl) (fun ph w' hp hpm hw => ?_)
      have e47 : Fr.tmps[47]? = some (.pointer (some ⟨w.heap.size + 1, 0, none⟩)) := hEA.dst 29 _ 47 rfl rfl; simp [execOp, e47, go_sem]
    · refine ob_val (want_is hEA (g := 24) (x := false) (b := false) rfl rfl rfl rfl) (by kernel_rfl) (fun ph w' hp hpm hw => ?_)
      have e48 : Fr.tmps[48]? = some (.pointer (some ⟨w.heap.size + 1, 0, none⟩)) := hEA.dst 30 _ 48 rfl rfl; simp [execOp, e48, go_sem]
    · refine ob_val (want_is hEA (g := 24) (x := false) (b := false) rfl rfl rfl rfl) (by kernel_rfl) (fun ph w' hp hpm hw => ?_)
      have hc0 := (show At w' (w.heap.size + 1) 100 (some r) from by have h2 := hw.2.2; rwa [if_pos (show 3 ≤ ph from Nat.le_trans (by decide) hp)] at h2).1.s
      have e49 : Fr.tmps[49]? = some (.pointer (some ⟨w.heap.size + 1, 0, none⟩)) := hEA.dst 31 _ 49 rfl rfl; simp [execOp, e49, hc0, go_sem]
    · refine ob_val (want_is hEA (g := 24) (x := false) (b := false) rfl rfl rfl rfl) (by kernel_rfl) (fun ph w' hp hpm hw => ?_)
      have e46 : Fr.tmps[46]? = some (.string (tx r)) := hEA.dst 28 _ 46 rfl rfl; have e50 : Fr.tmps[50]? = some (.string (tx r)) := hEA.dst 32 _ 50 rfl rfl; simp [execOp, e46, e50, go_sem]
    · refine ob_val (want_is hEA (g := 19) (x := true) (b := true) rfl rfl rfl rfl) (by kernel_rfl) (fun ph w' hp hpm hw => ?_)
      have e42 : Fr.tmps[42]? = some (.bool false) := hEA.dst 24 _ 42 rfl rfl; have e51 : Fr.tmps[51]? = some (.bool true) := hEA.dst 33 _ 51 rfl rfl; simp [execOp, e42, e51, go_sem]
    · refine ob_val (want_none rfl) (by kernel_rfl) (fun ph w' hp hpm hw => ?_)
      have e37 : Fr.tmps[37]? = some (.bool true) := hEA.dst 19 _ 37 rfl rfl; have e52 : Fr.tmps[52]? = some (.bool true) := hEA.dst 34 _ 52 rfl rfl; simp [execOp, e37, e52, go_sem]
    · refine ob_val (want_none rfl) (by kernel_rfl) (fun ph w' hp hpm hw => ?_)
      have e53 : Fr.tmps[53]? = some (.bool true) := hEA.dst 35 _ 53 rfl rfl; simp [execOp, e53, go_sem]
  · intro w' hw
    simp only [laid, Act.put, List.setIfInBounds_toArray, List.set_cons_succ, List.set_cons_zero, List.getD_cons_succ, List.getD_cons_zero, Nat.zero_add, Nat.reduceAdd]
    go_wp2_with fail
    go_ret
    exact ⟨rfl, hw.1⟩

set_option maxRecDepth 100000 in
set_option maxHeartbeats 8000000 in
theorem memberReads_memBad (s : List UInt8) (w : World) (h : s.length ≤ 100) (hst : memSt (some s) = none) :
    Calls Try.prog 4 #[.string (tx s), .bool false] w fun e w' => e = .returned (.bool true) ∧ Below w.heap.size w w' := by
  have hs : (tx s).size = s.length := tx_size s
  have d0 : decide (100 < (s.length : Int)) = false := decide_eq_false (by omega)
  go_enter Try.func4, Try.ntmps4
  go_wp2_with fail
  obtain ⟨W0, hW0, hA, hB, B⟩ := lefts_new w s 37 39 h
  rw [hW0]
  clear hW0
  refine wp_region_plan (fun i => ([.bool true, .bool true, .pointer (some ⟨w.heap.size, 0, none⟩), vM (memOf (some s)).1 (memOf (some s)).2, .pointer (some ⟨w.heap.size + 1, 0, none⟩), vM (memOf (some s)).1 (memOf (some s)).2, .bool true, .bool true, .bool true, .pointer (some ⟨w.heap.size, 0, none⟩), .pointer (some ⟨w.heap.size, 0, none⟩), .pointer (some ⟨w.heap.size, 1, none⟩), .bool true, .pointer (some ⟨w.heap.size + 1, 0, none⟩), .pointer (some ⟨w.heap.size + 1, 0, none⟩), .pointer (some ⟨w.heap.size + 1, 1, none⟩), .bool true, .bool true, .bool true, .bool true, .pointer (some ⟨w.heap.size, 0, none⟩), .pointer (some ⟨w.heap.size, 0, none⟩), .pointer (some ⟨w.heap.size, 1, none⟩), .bool true, .bool true, undef, undef, undef, undef, undef, undef, undef, undef, undef, .bool true, .bool true, .bool true] : List Value).getD i undef) [0, 3, 5] [0, 1, 1, 1, 1, 2, 3, 3, 3, 3, 3, 3, 3, 3, 3, 3, 3, 3, 3, 3, 3, 3, 3, 3, 3, 3, 3, 3, 3, 3, 3, 3, 3, 3, 3, 3, 3] (fun ph w' => Below w.heap.size w w' ∧ At w' w.heap.size 100 (if 2 ≤ ph then none else some s) ∧ At w' (w.heap.size + 1) 100 (if 3 ≤ ph then none else some s)) (by kernel_rfl) (by kernel_rfl) (⟨B.drew, hA.keep rfl, hB.keep rfl⟩) ?_ ?_
  · refine Obs_of_ends (by kernel_rfl) ?_
    intro Fr hEA
    refine ⟨?_, ?_, ?_, ?_, ?_, ?_, ?_, ?_, ?_, ?_, ?_, ?_, ?_, ?_, ?_, ?_, ?_, ?_, ?_, ?_, ?_, ?_, ?_, ?_, ?_, ?_, ?_, ?_, ?_, ?_, ?_, ?_, ?_, ?_, ?_, ?_, ?_, trivial⟩
    · refine ob_call (q := 0) (f := 8) (args := #[]) (want_none rfl) (by kernel_rfl) (fun w' => by simp [go_sem]) ?_
      rintro w' ⟨hb', ha', hb2⟩
      refine (awake8_any w').mono ?_
      rintro e w2 ⟨rfl, hb⟩
      exact ⟨rfl, hb'.trans (hb.mono hb'.size), ha'.next hb, hb2.next hb⟩
    · exact ob_move _ rfl (want_none rfl) (by kernel_rfl) (eval_dst hEA (j := 0) rfl rfl)
    · exact ob_move _ rfl (want_is hEA (g := 1) (x := true) (b := true) rfl rfl rfl rfl) (by kernel_rfl) (eval_out hEA (d := 5) (by kernel_rfl))
    · refine ob_call (q := 1) (f := 25) (args := #[.pointer (some ⟨w.heap.size, 0, none⟩)]) (want_is hEA (g := 1) (x := true) (b := true) rfl rfl rfl rfl) (by kernel_rfl) (fun w' => by have e56 : Fr.tmps[56]? = some (.pointer (some ⟨w.heap.size, 0, none⟩)) := hEA.dst 2 _ 56 rfl rfl; simp [e56, go_sem]) ?_
      rintro w' ⟨hb', ha', hb2⟩
      refine (read_any w.heap.size 100 (some s) w' ha' (by decide)).mono ?_
      rintro e w2 ⟨rfl, h1, h2⟩
      exact ⟨rfl, hb'.trans (h2.below (Nat.le_refl _) hb'.size), hst ▸ h1, hb2.keep (h2.block _ hb2.lt (by omega))⟩
    · exact ob_move _ rfl (want_is hEA (g := 1) (x := true) (b := true) rfl rfl rfl rfl) (by kernel_rfl) (eval_out hEA (d := 6) (by kernel_rfl))
    · refine ob_call (q := 2) (f := 26) (args := #[.pointer (some ⟨w.heap.size + 1, 0, none⟩)]) (want_is hEA (g := 1) (x := true) (b := true) rfl rfl rfl rfl) (by kernel_rfl) (fun w' => by have e58 : Fr.tmps[58]? = some (.pointer (some ⟨w.heap.size + 1, 0, none⟩)) := hEA.dst 4 _ 58 rfl rfl; simp [e58, go_sem]) ?_
      rintro w' ⟨hb', ha', hb2⟩
      refine (refRead_any (w.heap.size + 1) 100 (some s) w' hb2 (by decide)).mono ?_
      rintro e w2 ⟨rfl, h1, h2⟩
      exact ⟨rfl, hb'.trans (h2.below (by omega) hb'.size), ha'.keep (h2.block _ ha'.lt (by omega)), hst ▸ h1⟩
    · refine ob_val (want_is hEA (g := 1) (x := true) (b := true) rfl rfl rfl rfl) (by kernel_rfl) (fun ph w' hp hpm hw => ?_)
      have e57 : Fr.tmps[57]? = some (vM (memOf (some s)).1 (memOf (some s)).2) := hEA.dst 3 _ 57 rfl rfl; have e59 : Fr.tmps[59]? = some (vM (memOf (some s)).1 (memOf (some s)).2) := hEA.dst 5 _ 59 rfl rfl; simp [execOp, e57, e59, go_sem]
    · refine ob_val (want_none rfl) (by kernel_rfl) (fun ph w' hp hpm hw => ?_)
      have e55 : Fr.tmps[55]? = some (.bool true) := hEA.dst 1 _ 55 rfl rfl; have e60 : Fr.tmps[60]? = some (.bool true) := hEA.dst 6 _ 60 rfl rfl; simp [execOp, e55, e60, go_sem]
    · exact ob_move _ rfl (want_none rfl) (by kernel_rfl) (eval_dst hEA (j := 7) rfl rfl)
    · exact ob_move _ rfl (want_is hEA (g := 8) (x := true) (b := true) rfl rfl rfl rfl) (by kernel_rfl) (eval_out hEA (d := 5) (by kernel_rfl))
    · refine ob_val (want_is hEA (g := 8) (x := true) (b := true) rfl rfl rfl rfl) (by kernel_rfl) (fun ph w' hp hpm hw => ?_)
      have e63 : Fr.tmps[63]? = some (.pointer (some ⟨w.heap.size, 0, none⟩)) := hEA.dst 9 _ 63 rfl rfl; simp [execOp, e63, go_sem]
    · refine ob_val (want_is hEA (g := 8) (x := true) (b := true) rfl rfl rfl rfl) (by kernel_rfl) (fun ph w' hp hpm hw => ?_)
      have e64 : Fr.tmps[64]? = some (.pointer (some ⟨w.heap.size, 0, none⟩)) := hEA.dst 10 _ 64 rfl rfl; simp [execOp, e64, go_sem]
    · refine ob_val (want_is hEA (g := 8) (x := true) (b := true) rfl rfl rfl rfl) (by kernel_rfl) (fun ph w' hp hpm hw => ?_)
      have hc0 := (show w'.cell? ⟨w.heap.size, 1, none⟩ = some (.bool true) from (show At w' w.heap.size 100 none from by have h2 := hw.2.1; rwa [if_pos (show 2 ≤ ph from Nat.le_trans (by decide) hp)] at h2).bad)
      have e65 : Fr.tmps[65]? = some (.pointer (some ⟨w.heap.size, 1, none⟩)) := hEA.dst 11 _ 65 rfl rfl; simp [execOp, e65, hc0, go_sem]
    · exact ob_move _ rfl (want_is hEA (g := 8) (x := true) (b := true) rfl rfl rfl rfl) (by kernel_rfl) (eval_out hEA (d := 6) (by kernel_rfl))
    · refine ob_val (want_is hEA (g := 8) (x := true) (b := true) rfl rfl rfl rfl) (by kernel_rfl) (fun ph w' hp hpm hw => ?_)
      have e67 : Fr.tmps[67]? = some (.pointer (some ⟨w.heap.size + 1, 0, none⟩)) := hEA.dst 13 _ 67 rfl rfl; simp [execOp, e67, go_sem]
    · refine ob_val (want_is hEA (g := 8) (x := true) (b := true) rfl rfl rfl rfl) (by kernel_rfl) (fun ph w' hp hpm hw => ?_)
      have e68 : Fr.tmps[68]? = some (.pointer (some ⟨w.heap.size + 1, 0, none⟩)) := hEA.dst 14 _ 68 rfl rfl; simp [execOp, e68, go_sem]
    · refine ob_val (want_is hEA (g := 8) (x := true) (b := true) rfl rfl rfl rfl) (by kernel_rfl) (fun ph w' hp hpm hw => ?_)
      have hc0 := (show w'.cell? ⟨w.heap.size + 1, 1, none⟩ = some (.bool true) from (show At w' (w.heap.size + 1) 100 none from by have h2 := hw.2.2; rwa [if_pos (show 3 ≤ ph from Nat.le_trans (by decide) hp)] at h2).bad)
      have e69 : Fr.tmps[69]? = some (.pointer (some ⟨w.heap.size + 1, 1, none⟩)) := hEA.dst 15 _ 69 rfl rfl; simp [execOp, e69, hc0, go_sem]
    · refine ob_val (want_is hEA (g := 8) (x := true) (b := true) rfl rfl rfl rfl) (by kernel_rfl) (fun ph w' hp hpm hw => ?_)
      have e66 : Fr.tmps[66]? = some (.bool true) := hEA.dst 12 _ 66 rfl rfl; have e70 : Fr.tmps[70]? = some (.bool true) := hEA.dst 16 _ 70 rfl rfl; simp [execOp, e66, e70, go_sem]
    · refine ob_val (want_none rfl) (by kernel_rfl) (fun ph w' hp hpm hw => ?_)
      have e62 : Fr.tmps[62]? = some (.bool true) := hEA.dst 8 _ 62 rfl rfl; have e71 : Fr.tmps[71]? = some (.bool true) := hEA.dst 17 _ 71 rfl rfl; simp [execOp, e62, e71, go_sem]
    · exact ob_move _ rfl (want_none rfl) (by kernel_rfl) (eval_dst hEA (j := 18) rfl rfl)
    · exact ob_move _ rfl (want_is hEA (g := 19) (x := true) (b := true) rfl rfl rfl rfl) (by kernel_rfl) (eval_out hEA (d := 5) (by kernel_rfl))
    · refine ob_val (want_is hEA (g := 19) (x := true) (b := true) rfl rfl rfl rfl) (by kernel_rfl) (fun ph w' hp hpm hw => ?_)
      have e74 : Fr.tmps[74]? = some (.pointer (some ⟨w.heap.size, 0, none⟩)) := hEA.dst 20 _ 74 rfl rfl; simp [execOp, e74, go_sem]
    · refine ob_val (want_is hEA (g := 19) (x := true) (b := true) rfl rfl rfl rfl) (by kernel_rfl) (fun ph w' hp hpm hw => ?_)
      have e75 : Fr.tmps[75]? = some (.pointer (some ⟨w.heap.size, 0, none⟩)) := hEA.dst 21 _ 75 rfl rfl; simp [execOp, e75, go_sem]
    · refine ob_val (want_is hEA (g := 19) (x := true) (b := true) rfl rfl rfl rfl) (by kernel_rfl) (fun ph w' hp hpm hw => ?_)
      have hc0 := (show w'.cell? ⟨w.heap.size, 1, none⟩ = some (.bool true) from (show At w' w.heap.size 100 none from by have h2 := hw.2.1; rwa [if_pos (show 2 ≤ ph from Nat.le_trans (by decide) hp)] at h2).bad)
      have e76 : Fr.tmps[76]? = some (.pointer (some ⟨w.heap.size, 1, none⟩)) := hEA.dst 22 _ 76 rfl rfl; simp [execOp, e76, hc0, go_sem]
    · exact ob_move _ rfl (want_is hEA (g := 19) (x := true) (b := true) rfl rfl rfl rfl) (by kernel_rfl) (eval_dst hEA (j := 23) rfl rfl)
    · exact ob_skip (want_is hEA (g := 24) (x := true) (b := false) rfl rfl rfl rfl) (by kernel_rfl) rfl
    · exact ob_skip (want_is hEA (g := 24) (x := true) (b := false) rfl rfl rfl rfl) (by kernel_rfl) rfl
    · exact ob_skip (want_is hEA (g := 24) (x := true) (b := false) rfl rfl rfl rfl) (by kernel_rfl) rfl
    · exact ob_skip (want_is hEA (g := 24) (x := true) (b := false) rfl rfl rfl rfl) (by kernel_rfl) rfl
    · exact ob_skip (want_is hEA (g := 24) (x := true) (b := false) rfl rfl rfl rfl) (by kernel_rfl) rfl
    · exact ob_skip (want_is hEA (g := 24) (x := true) (b := false) rfl rfl rfl rfl) (by kernel_rfl) rfl
    · exact ob_skip (want_is hEA (g := 24) (x := true) (b := false) rfl rfl rfl rfl) (by kernel_rfl) rfl
    · exact ob_skip (want_is hEA (g := 24) (x := true) (b := false) rfl rfl rfl rfl) (by kernel_rfl) rfl
    · exact ob_skip (want_is hEA (g := 24) (x := true) (b := false) rfl rfl rfl rfl) (by kernel_rfl) rfl
    · refine ob_val (want_is hEA (g := 19) (x := true) (b := true) rfl rfl rfl rfl) (by kernel_rfl) (fun ph w' hp hpm hw => ?_)
      have e78 : Fr.tmps[78]? = some (.bool true) := hEA.dst 24 _ 78 rfl rfl; have e87 : Fr.tmps[87]? = some (undef) := hEA.dst 33 _ 87 rfl rfl; simp [execOp, e78, e87, go_sem]
    · refine ob_val (want_none rfl) (by kernel_rfl) (fun ph w' hp hpm hw => ?_)
      have e73 : Fr.tmps[73]? = some (.bool true) := hEA.dst 19 _ 73 rfl rfl; have e88 : Fr.tmps[88]? = some (.bool true) := hEA.dst 34 _ 88 rfl rfl; simp [execOp, e73, e88, go_sem]
    · refine ob_val (want_none rfl) (by kernel_rfl) (fun ph w' hp hpm hw => ?_)
      have e89 : Fr.tmps[89]? = some (.bool true) := hEA.dst 35 _ 89 rfl rfl; simp [execOp, e89, go_sem]
  · intro w' hw
    simp only [laid, Act.put, List.setIfInBounds_toArray, List.set_cons_succ, List.set_cons_zero, List.getD_cons_succ, List.getD_cons_zero, Nat.zero_add, Nat.reduceAdd]
    go_wp2_with fail
    go_ret
    exact ⟨rfl, hw.1⟩

set_option maxRecDepth 100000 in
set_option maxHeartbeats 8000000 in
theorem memberReads_memGood (s r : List UInt8) (w : World) (h : s.length ≤ 100) (hst : memSt (some s) = (some r)) :
    Calls Try.prog 4 #[.string (tx s), .bool false] w fun e w' => e = .returned (.bool true) ∧ Below w.heap.size w w' := by
  have hs : (tx s).size = s.length := tx_size s
  have d0 : decide (100 < (s.length : Int)) = false := decide_eq_false (by omega)
  go_enter Try.func4, Try.ntmps4
  go_wp2_with fail
  obtain ⟨W0, hW0, hA, hB, B⟩ := lefts_new w s 37 39 h
  rw [hW0]
  clear hW0
  refine wp_region_plan (fun i => ([.bool true, .bool true, .pointer (some ⟨w.heap.size, 0, none⟩), vM (memOf (some s)).1 (memOf (some s)).2, .pointer (some ⟨w.heap.size + 1, 0, none⟩), vM (memOf (some s)).1 (memOf (some s)).2, .bool true, .bool true, .bool true, .pointer (some ⟨w.heap.size, 0, none⟩), .pointer (some ⟨w.heap.size, 0, none⟩), .pointer (some ⟨w.heap.size, 1, none⟩), .bool false, .pointer (some ⟨w.heap.size + 1, 0, none⟩), .pointer (some ⟨w.heap.size + 1, 0, none⟩), .pointer (some ⟨w.heap.size + 1, 1, none⟩), .bool false, .bool true, .bool true, .bool true, .pointer (some ⟨w.heap.size, 0, none⟩), .pointer (some ⟨w.heap.size, 0, none⟩), .pointer (some ⟨w.heap.size, 1, none⟩), .bool false, .bool false, .pointer (some ⟨w.heap.size, 0, none⟩), .pointer (some ⟨w.heap.size, 0, none⟩), .pointer (some ⟨w.heap.size, 0, none⟩), .string (tx r), .pointer (some ⟨w.heap.size + 1, 0, none⟩), .pointer (some ⟨w.heap.size + 1, 0, none⟩), .pointer (some ⟨w.heap.size + 1, 0, none⟩), .string (tx r), .bool true, .bool true, .bool true, .bool true] : List Value).getD i undef) [0, 3, 5] [0, 1, 1, 1, 1, 2, 3, 3, 3, 3, 3, 3, 3, 3, 3, 3, 3, 3, 3, 3, 3, 3, 3, 3, 3, 3, 3, 3, 3, 3, 3, 3, 3, 3, 3, 3, 3] (fun ph w' => Below w.heap.size w w' ∧ At w' w.heap.size 100 (if 2 ≤ ph then (some r) else some s) ∧ At w' (w.heap.size + 1) 100 (if 3 ≤ ph then (some r) else some s)) (by kernel_rfl) (by kernel_rfl) (⟨B.drew, hA.keep rfl, hB.keep rfl⟩) ?_ ?_
  · refine Obs_of_ends (by kernel_rfl) ?_
    intro Fr hEA
    refine ⟨?_, ?_, ?_, ?_, ?_, ?_, ?_, ?_, ?_, ?_, ?_, ?_, ?_, ?_, ?_, ?_, ?_, ?_, ?_, ?_, ?_, ?_, ?_, ?_, ?_, ?_, ?_, ?_, ?_, ?_, ?_, ?_, ?_, ?_, ?_, ?_, ?_, trivial⟩
    · refine ob_call (q := 0) (f := 8) (args := #[]) (want_none rfl) (by kernel_rfl) (fun w' => by simp [go_sem]) ?_
      rintro w' ⟨hb', ha', hb2⟩
      refine (awake8_any w').mono ?_
      rintro e w2 ⟨rfl, hb⟩
      exact ⟨rfl, hb'.trans (hb.mono hb'.size), ha'.next hb, hb2.next hb⟩
    · exact ob_move _ rfl (want_none rfl) (by kernel_rfl) (eval_dst hEA (j := 0) rfl rfl)
    · exact ob_move _ rfl (want_is hEA (g := 1) (x := true) (b := true) rfl rfl rfl rfl) (by kernel_rfl) (eval_out hEA (d := 5) (by kernel_rfl))
    · refine ob_call (q := 1) (f := 25) (args := #[.pointer (some ⟨w.heap.size, 0, none⟩)]) (want_is hEA (g := 1) (x := true) (b := true) rfl rfl rfl rfl) (by kernel_rfl) (fun w' => by have e56 : Fr.tmps[56]? = some (.pointer (some ⟨w.heap.size, 0, none⟩)) := hEA.dst 2 _ 56 rfl rfl; simp [e56, go_sem]) ?_
      rintro w' ⟨hb', ha', hb2⟩
      refine (read_any w.heap.size 100 (some s) w' ha' (by decide)).mono ?_
      rintro e w2 ⟨rfl, h1, h2⟩
      exact ⟨rfl, hb'.trans (h2.below (Nat.le_refl _) hb'.size), hst ▸ h1, hb2.keep (h2.block _ hb2.lt (by omega))⟩
    · exact ob_move _ rfl (want_is hEA (g := 1) (x := true) (b := true) rfl rfl rfl rfl) (by kernel_rfl) (eval_out hEA (d := 6) (by kernel_rfl))
    · refine ob_call (q := 2) (f := 26) (args := #[.pointer (some ⟨w.heap.size + 1, 0, none⟩)]) (want_is hEA (g := 1) (x := true) (b := true) rfl rfl rfl rfl) (by kernel_rfl) (fun w' => by have e58 : Fr.tmps[58]? = some (.pointer (some ⟨w.heap.size + 1, 0, none⟩)) := hEA.dst 4 _ 58 rfl rfl; simp [e58, go_sem]) ?_
      rintro w' ⟨hb', ha', hb2⟩
      refine (refRead_any (w.heap.size + 1) 100 (some s) w' hb2 (by decide)).mono ?_
      rintro e w2 ⟨rfl, h1, h2⟩
      exact ⟨rfl, hb'.trans (h2.below (by omega) hb'.size), ha'.keep (h2.block _ ha'.lt (by omega)), hst ▸ h1⟩
    · refine ob_val (want_is hEA (g := 1) (x := true) (b := true) rfl rfl rfl rfl) (by kernel_rfl) (fun ph w' hp hpm hw => ?_)
      have e57 : Fr.tmps[57]? = some (vM (memOf (some s)).1 (memOf (some s)).2) := hEA.dst 3 _ 57 rfl rfl; have e59 : Fr.tmps[59]? = some (vM (memOf (some s)).1 (memOf (some s)).2) := hEA.dst 5 _ 59 rfl rfl; simp [execOp, e57, e59, go_sem]
    · refine ob_val (want_none rfl) (by kernel_rfl) (fun ph w' hp hpm hw => ?_)
      have e55 : Fr.tmps[55]? = some (.bool true) := hEA.dst 1 _ 55 rfl rfl; have e60 : Fr.tmps[60]? = some (.bool true) := hEA.dst 6 _ 60 rfl rfl; simp [execOp, e55, e60, go_sem]
    · exact ob_move _ rfl (want_none rfl) (by kernel_rfl) (eval_dst hEA (j := 7) rfl rfl)
    · exact ob_move _ rfl (want_is hEA (g := 8) (x := true) (b := true) rfl rfl rfl rfl) (by kernel_rfl) (eval_out hEA (d := 5) (by kernel_rfl))
    · refine ob_val (want_is hEA (g := 8) (x := true) (b := true) rfl rfl rfl rfl) (by kernel_rfl) (fun ph w' hp hpm hw => ?_)
      have e63 : Fr.tmps[63]? = some (.pointer (some ⟨w.heap.size, 0, none⟩)) := hEA.dst 9 _ 63 rfl rfl; simp [execOp, e63, go_sem]
    · refine ob_val (want_is hEA (g := 8) (x := true) (b := true) rfl rfl rfl rfl) (by kernel_rfl) (fun ph w' hp hpm hw => ?_)
      have e64 : Fr.tmps[64]? = some (.pointer (some ⟨w.heap.size, 0, none⟩)) := hEA.dst 10 _ 64 rfl rfl; simp [execOp, e64, go_sem]
    · refine ob_val (want_is hEA (g := 8) (x := true) (b := true) rfl rfl rfl rfl) (by kernel_rfl) (fun ph w' hp hpm hw => ?_)
      have hc0 := (show w'.cell? ⟨w.heap.size, 1, none⟩ = some (.bool false) from (show At w' w.heap.size 100 (some r) from by have h2 := hw.2.1; rwa [if_pos (show 2 ≤ ph from Nat.le_trans (by decide) hp)] at h2).bad)
      have e65 : Fr.tmps[65]? = some (.pointer (some ⟨w.heap.size, 1, none⟩)) := hEA.dst 11 _ 65 rfl rfl; simp [execOp, e65, hc0, go_sem]
    · exact ob_move _ rfl (want_is hEA (g := 8) (x := true) (b := true) rfl rfl rfl rfl) (by kernel_rfl) (eval_out hEA (d := 6) (by kernel_rfl))
    · refine ob_val (want_is hEA (g := 8) (x := true) (b := true) rfl rfl rfl rfl) (by kernel_rfl) (fun ph w' hp hpm hw => ?_)
      have e67 : Fr.tmps[67]? = some (.pointer (some ⟨w.heap.size + 1, 0, none⟩)) := hEA.dst 13 _ 67 rfl rfl; simp [execOp, e67, go_sem]
    · refine ob_val (want_is hEA (g := 8) (x := true) (b := true) rfl rfl rfl rfl) (by kernel_rfl) (fun ph w' hp hpm hw => ?_)
      have e68 : Fr.tmps[68]? = some (.pointer (some ⟨w.heap.size + 1, 0, none⟩)) := hEA.dst 14 _ 68 rfl rfl; simp [execOp, e68, go_sem]
    · refine ob_val (want_is hEA (g := 8) (x := true) (b := true) rfl rfl rfl rfl) (by kernel_rfl) (fun ph w' hp hpm hw => ?_)
      have hc0 := (show w'.cell? ⟨w.heap.size + 1, 1, none⟩ = some (.bool false) from (show At w' (w.heap.size + 1) 100 (some r) from by have h2 := hw.2.2; rwa [if_pos (show 3 ≤ ph from Nat.le_trans (by decide) hp)] at h2).bad)
      have e69 : Fr.tmps[69]? = some (.pointer (some ⟨w.heap.size + 1, 1, none⟩)) := hEA.dst 15 _ 69 rfl rfl; simp [execOp, e69, hc0, go_sem]
    · refine ob_val (want_is hEA (g := 8) (x := true) (b := true) rfl rfl rfl rfl) (by kernel_rfl) (fun ph w' hp hpm hw => ?_)
      have e66 : Fr.tmps[66]? = some (.bool false) := hEA.dst 12 _ 66 rfl rfl; have e70 : Fr.tmps[70]? = some (.bool false) := hEA.dst 16 _ 70 rfl rfl; simp [execOp, e66, e70, go_sem]
    · refine ob_val (want_none rfl) (by kernel_rfl) (fun ph w' hp hpm hw => ?_)
      have e62 : Fr.tmps[62]? = some (.bool true) := hEA.dst 8 _ 62 rfl rfl; have e71 : Fr.tmps[71]? = some (.bool true) := hEA.dst 17 _ 71 rfl rfl; simp [execOp, e62, e71, go_sem]
    · exact ob_move _ rfl (want_none rfl) (by kernel_rfl) (eval_dst hEA (j := 18) rfl rfl)
    · exact ob_move _ rfl (want_is hEA (g := 19) (x := true) (b := true) rfl rfl rfl rfl) (by kernel_rfl) (eval_out hEA (d := 5) (by kernel_rfl))
    · refine ob_val (want_is hEA (g := 19) (x := true) (b := true) rfl rfl rfl rfl) (by kernel_rfl) (fun ph w' hp hpm hw => ?_)
      have e74 : Fr.tmps[74]? = some (.pointer (some ⟨w.heap.size, 0, none⟩)) := hEA.dst 20 _ 74 rfl rfl; simp [execOp, e74, go_sem]
    · refine ob_val (want_is hEA (g := 19) (x := true) (b := true) rfl rfl rfl rfl) (by kernel_rfl) (fun ph w' hp hpm hw => ?_)
      have e75 : Fr.tmps[75]? = some (.pointer (some ⟨w.heap.size, 0, none⟩)) := hEA.dst 21 _ 75 rfl rfl; simp [execOp, e75, go_sem]
    · refine ob_val (want_is hEA (g := 19) (x := true) (b := true) rfl rfl rfl rfl) (by kernel_rfl) (fun ph w' hp hpm hw => ?_)
      have hc0 := (show w'.cell? ⟨w.heap.size, 1, none⟩ = some (.bool false) from (show At w' w.heap.size 100 (some r) from by have h2 := hw.2.1; rwa [if_pos (show 2 ≤ ph from Nat.le_trans (by decide) hp)] at h2).bad)
      have e76 : Fr.tmps[76]? = some (.pointer (some ⟨w.heap.size, 1, none⟩)) := hEA.dst 22 _ 76 rfl rfl; simp [execOp, e76, hc0, go_sem]
    · exact ob_move _ rfl (want_is hEA (g := 19) (x := true) (b := true) rfl rfl rfl rfl) (by kernel_rfl) (eval_dst hEA (j := 23) rfl rfl)
    · exact ob_move _ rfl (want_is hEA (g := 24) (x := false) (b := false) rfl rfl rfl rfl) (by kernel_rfl) (eval_out hEA (d := 5) (by kernel_rfl))
    · refine ob_val (want_is hEA (g := 24) (x := false) (b := false) rfl rfl rfl rfl) (by kernel_rfl) (fun ph w' hp hpm hw => ?_)
      have e79 : Fr.tmps[79]? = some (.pointer (some ⟨w.heap.size, 0, none⟩)) := hEA.dst 25 _ 79 rfl rfl; simp [execOp, e79, go_sem]
    · refine ob_val (want_is hEA (g := 24) (x := false) (b := false) rfl rfl rfl rfl) (by kernel_rfl) (fun ph w' hp hpm hw => ?_)
      have e80 : Fr.tmps[80]? = some (.pointer (some ⟨w.heap.size, 0, none⟩)) := hEA.dst 26 _ 80 rfl rfl; simp [execOp, e80, go_sem]
    · refine ob_val (want_is hEA (g := 24) (x := false) (b := false) rfl rfl rfl rfl) (by kernel_rfl) (fun ph w' hp hpm hw => ?_)
      have hc0 := (show At w' w.heap.size 100 (some r) from by have h2 := hw.2.1; rwa [if_pos (show 2 ≤ ph from Nat.le_trans (by decide) hp)] at h2).1.s
      have e81 : Fr.tmps[81]? = some (.pointer (some ⟨w.heap.size, 0, none⟩)) := hEA.dst 27 _ 81 rfl rfl; simp [execOp, e81, hc0, go_sem]
    · exact ob_move _ rfl (want_is hEA (g := 24) (x := false) (b := false) rfl rfl rfl rfl) (by kernel_rfl) (eval_out hEA (d := 6) (by kernel_rfl))
    · refine ob_val (want_is hEA (g := 24) (x := false) (b := false) rfl rfl rfl rfl) (by kernel_rfl) (fun ph w' hp hpm hw => ?_)
      have e83 : Fr.tmps[83]? = some (.pointer (some ⟨w.heap.size + 1, 0, none⟩)) := hEA.dst 29 _ 83 rfl rfl; simp [execOp, e83, go_sem]
    · refine ob_val (want_is hEA (g := 24) (x := false) (b := false) rfl rfl rfl rfl) (by kernel_rfl) (fun ph w' hp hpm hw => ?_)
      have e84 : Fr.tmps[84]? = some (.pointer (some ⟨w.heap.size + 1, 0, none⟩)) := hEA.dst 30 _ 84 rfl rfl; simp [execOp, e84, go_sem]
    · refine ob_val (want_is hEA (g := 24) (x := false) (b := false) rfl rfl rfl rfl) (by kernel_rfl) (fun ph w' hp hpm hw => ?_)
      have hc0 := (show At w' (w.heap.size + 1) 100 (some r) from by have h2 := hw.2.2; rwa [if_pos (show 3 ≤ ph from Nat.le_trans (by decide) hp)] at h2).1.s
      have e85 : Fr.tmps[85]? = some (.pointer (some ⟨w.heap.size + 1, 0, none⟩)) := hEA.dst 31 _ 85 rfl rfl; simp [execOp, e85, hc0, go_sem]
    · refine ob_val (want_is hEA (g := 24) (x := false) (b := false) rfl rfl rfl rfl) (by kernel_rfl) (fun ph w' hp hpm hw => ?_)
      have e82 : Fr.tmps[82]? = some (.string (tx r)) := hEA.dst 28 _ 82 rfl rfl; have e86 : Fr.tmps[86]? = some (.string (tx r)) := hEA.dst 32 _ 86 rfl rfl; simp [execOp, e82, e86, go_sem]
    · refine ob_val (want_is hEA (g := 19) (x := true) (b := true) rfl rfl rfl rfl) (by kernel_rfl) (fun ph w' hp hpm hw => ?_)
      have e78 : Fr.tmps[78]? = some (.bool false) := hEA.dst 24 _ 78 rfl rfl; have e87 : Fr.tmps[87]? = some (.bool true) := hEA.dst 33 _ 87 rfl rfl; simp [execOp, e78, e87, go_sem]
    · refine ob_val (want_none rfl) (by kernel_rfl) (fun ph w' hp hpm hw => ?_)
      have e73 : Fr.tmps[73]? = some (.bool true) := hEA.dst 19 _ 73 rfl rfl; have e88 : Fr.tmps[88]? = some (.bool true) := hEA.dst 34 _ 88 rfl rfl; simp [execOp, e73, e88, go_sem]
    · refine ob_val (want_none rfl) (by kernel_rfl) (fun ph w' hp hpm hw => ?_)
      have e89 : Fr.tmps[89]? = some (.bool true) := hEA.dst 35 _ 89 rfl rfl; simp [execOp, e89, go_sem]
  · intro w' hw
    simp only [laid, Act.put, List.setIfInBounds_toArray, List.set_cons_succ, List.set_cons_zero, List.getD_cons_succ, List.getD_cons_zero, Nat.zero_add, Nat.reduceAdd]
    go_wp2_with fail
    go_ret
    exact ⟨rfl, hw.1⟩

theorem memberReads_walk (s : ByteArray) (id : Bool) (w : World) (w0 : s.size ≤ maxLen) :
    Calls Try.prog 4 #[.string s, .bool id] w fun e w' => e = .returned (.bool true) ∧ Below w.heap.size w w' := by
  rw [tx_of s]
  by_cases h : s.data.toList.length ≤ 100
  · cases id
    · cases hst : memSt (some s.data.toList) with
      | none => exact memberReads_memBad _ w h hst
      | some r => exact memberReads_memGood _ r w h hst
    · cases hst : idSt (some s.data.toList) with
      | none => exact memberReads_idBad _ w h hst
      | some r => exact memberReads_idGood _ r w h hst
  · exact memberReads_big _ id w h

end Go.Proofs.Ytbjefnboppfnaaa
