import Derived.Test.YtkmlnglmecjmeaaAwake15
import Derived.Test.YtkmlnglmecjmeaaPhaseA
import Derived.Test.YtkmlnglmecjmeaaTreeR
import Derived.Test.YtkmlnglmecjmeaaPruR
import Derived.Test.YtkmlnglmecjmeaaSnoc
import Derived.Test.YtkmlnglmecjmeaaBoxM
/- lodgelaw15.PlanOne answers true, whatever slice of spots and member come in, and leaves memory below as it was. No condition. -/
namespace Go.Proofs.Ytkmlnglmecjmeaa
open Go Go.RowKit
set_option linter.unusedVariables false

abbrev newHd (m1 m2 : Int) : FH := ⟨(m1, m2), (0, 0, 0), (none, 0, 0), (0, 0, 0), (none, 0, 0), false⟩
abbrev oldH (h : Hd) (m : Int × Int) : FH := ⟨m, (0, 0, 0), (none, 0, 0), (1, 0, 1), h, false⟩
theorem each_old {n : Nat} {w : World} {t : Tr} {h : Hd} (hx : Spots n w (spo (some t)) [.slice h.1 h.2.1 h.2.2]) (ms : List (Int × Int)) : EachF n w (ms.map (oldH h)) (ms.map (oldF t)) := by
  refine ⟨by simp, fun i a f h1 h2 => ?_⟩
  rw [List.getElem?_map] at h1 h2
  cases hm : ms[i]? with
  | none => rw [hm] at h1; cases h1
  | some m =>
    rw [hm] at h1 h2
    simp only [Option.map_some, Option.some.injEq] at h1 h2
    subst h1 h2
    exact ⟨rfl, rfl, rfl, hx⟩
theorem one_new (n : Nat) (w : World) (m1 m2 : Int) : EachF n w [newHd m1 m2] [newF (m1, m2)] := Pairs.one ⟨rfl, rfl, rfl, none, 0, rfl, Nat.le_refl _, Nat.zero_le _, fun _ => rfl, fun h => absurd h (Nat.lt_irrefl 0)⟩
theorem old_step (h : Hd) (ms : List (Int × Int)) (k : Nat) (hk : k < ms.length) : (ms.take (k + 1)).map (oldH h) = (ms.take k).map (oldH h) ++ [oldH h ms[k]] := by
  rw [List.take_succ_eq_append_getElem hk, List.map_append]
  rfl
set_option maxRecDepth 100000 in
set_option maxHeartbeats 16000000 in
theorem planOne_walk (A : Option Addr) (la ca : Nat) (c : Array Value) (w : World) (h : ∃ xs, Spots w.heap.size w xs [.slice A la ca]) (h' : ∃ m, IsM w.heap.size w m c.toList) :
    Calls Try.prog 4 #[.slice A la ca, .agg c] w fun e w' => e = .returned (.bool true) ∧ Below w.heap.size w w' := by
  obtain ⟨xs, hx⟩ := h
  have HX := Lib.hid hx
  obtain ⟨_, _, e, hlc, hcm, _⟩ := spots_at hx
  simp only [Value.slice.injEq] at e
  obtain ⟨rfl, hla, rfl⟩ := e
  have hc1 : ca ≤ 9223372036854775807 := Nat.le_trans hcm (by decide)
  subst hla
  clear hx hcm
  obtain ⟨⟨m1, m2⟩, hm⟩ := h'
  obtain rfl : c = #[.int .i64 m1, .int .i64 m2] := by
    have hm : c.toList = [.int .i64 m1, .int .i64 m2] := hm
    rw [← Array.toArray_toList (xs := c), hm]
  clear hm
  go_enter Try.func4, Try.ntmps4
  go_wp2_with fail
  obtain ⟨W0, hW0, b0, B⟩ : ∃ W0, w.alloc (.cells #[.int .i64 m1, .int .i64 m2] 27) = W0 ∧ Box W0 w.heap.size [.int .i64 m1, .int .i64 m2] ∧ Below w.heap.size w W0 := ⟨_, rfl, Box.new w _ _, below_new _ _⟩
  rw [hW0]
  clear hW0
  replace HX := Lib.hid (keeps_spots _ _ _ _ _ _ HX.out B B.size)
  by_cases h15 : 15 < xs.length
  · have hd : decide ((15 : Int) < (xs.length : Int)) = true := decide_eq_true (by omega)
    refine wp_region_results (fun r i => ([.slice A xs.length ca, .int .i64 (xs.length : Int), .bool true, .bool true, undef, undef, undef, .bool true, .bool true, undef, undef, undef, .bool true, .bool true, undef, undef, undef, .bool true, .bool true, undef, undef, undef, undef, .bool true] : List Value).getD i undef) [] [0, 0, 0, 0, 0, 0, 0, 0, 0, 0, 0, 0, 0, 0, 0, 0, 0, 0, 0, 0, 0, 0, 0, 0] (fun r q w' => (Below W0.heap.size W0 w')) (by kernel_rfl) (by kernel_rfl) (fun r => ⟨rfl, rfl, rfl, Nat.le_refl _, fun _ _ => rfl⟩) ?_ ?_
    · refine ObsR_of_ends (by kernel_rfl) ?_
      intro r Fr hEA
      refine ⟨?_, ?_, ?_, ?_, ?_, ?_, ?_, ?_, ?_, ?_, ?_, ?_, ?_, ?_, ?_, ?_, ?_, ?_, ?_, ?_, ?_, ?_, ?_, ?_, trivial⟩
      · exact obR_move _ rfl (want_none rfl) (by kernel_rfl) (eval_out hEA (d := 0) (by kernel_rfl))
      · refine obR_val (want_none rfl) (by kernel_rfl) (fun ph w' hp hpm hw => ?_)
        have e12 : Fr.tmps[12]? = some (.slice A xs.length ca) := hEA.dst 0 _ 12 rfl rfl; simp [e12, go_sem]
      · refine obR_val (want_none rfl) (by kernel_rfl) (fun ph w' hp hpm hw => ?_)
        have e13 : Fr.tmps[13]? = some (.int .i64 (xs.length : Int)) := hEA.dst 1 _ 13 rfl rfl; simp [execOp, e13, hd, go_sem]
      · exact obR_move _ rfl (want_none rfl) (by kernel_rfl) (eval_dst hEA (j := 2) rfl rfl)
      · exact obR_skip (want_is hEA (g := 3) (x := true) (b := false) rfl rfl rfl rfl) (by kernel_rfl) rfl
      · exact obR_skip (want_is hEA (g := 3) (x := true) (b := false) rfl rfl rfl rfl) (by kernel_rfl) rfl
      · exact obR_skip (want_is hEA (g := 3) (x := true) (b := false) rfl rfl rfl rfl) (by kernel_rfl) rfl
      · refine obR_val (want_none rfl) (by kernel_rfl) (fun ph w' hp hpm hw => ?_)
        have e15 : Fr.tmps[15]? = some (.bool true) := hEA.dst 3 _ 15 rfl rfl; have e18 : Fr.tmps[18]? = some (undef) := hEA.dst 6 _ 18 rfl rfl; simp [execOp, e15, e18, go_sem]
      · exact obR_move _ rfl (want_none rfl) (by kernel_rfl) (eval_dst hEA (j := 7) rfl rfl)
      · exact obR_skip (want_is hEA (g := 8) (x := true) (b := false) rfl rfl rfl rfl) (by kernel_rfl) rfl
      · exact obR_skip (want_is hEA (g := 8) (x := true) (b := false) rfl rfl rfl rfl) (by kernel_rfl) rfl
      · exact obR_skip (want_is hEA (g := 8) (x := true) (b := false) rfl rfl rfl rfl) (by kernel_rfl) rfl
      · refine obR_val (want_none rfl) (by kernel_rfl) (fun ph w' hp hpm hw => ?_)
        have e20 : Fr.tmps[20]? = some (.bool true) := hEA.dst 8 _ 20 rfl rfl; have e23 : Fr.tmps[23]? = some (undef) := hEA.dst 11 _ 23 rfl rfl; simp [execOp, e20, e23, go_sem]
      · exact obR_move _ rfl (want_none rfl) (by kernel_rfl) (eval_dst hEA (j := 12) rfl rfl)
      · exact obR_skip (want_is hEA (g := 13) (x := true) (b := false) rfl rfl rfl rfl) (by kernel_rfl) rfl
      · exact obR_skip (want_is hEA (g := 13) (x := true) (b := false) rfl rfl rfl rfl) (by kernel_rfl) rfl
      · exact obR_skip (want_is hEA (g := 13) (x := true) (b := false) rfl rfl rfl rfl) (by kernel_rfl) rfl
      · refine obR_val (want_none rfl) (by kernel_rfl) (fun ph w' hp hpm hw => ?_)
        have e25 : Fr.tmps[25]? = some (.bool true) := hEA.dst 13 _ 25 rfl rfl; have e28 : Fr.tmps[28]? = some (undef) := hEA.dst 16 _ 28 rfl rfl; simp [execOp, e25, e28, go_sem]
      · exact obR_move _ rfl (want_none rfl) (by kernel_rfl) (eval_dst hEA (j := 17) rfl rfl)
      · exact obR_skip (want_is hEA (g := 18) (x := true) (b := false) rfl rfl rfl rfl) (by kernel_rfl) rfl
      · exact obR_skip (want_is hEA (g := 18) (x := true) (b := false) rfl rfl rfl rfl) (by kernel_rfl) rfl
      · exact obR_skip (want_is hEA (g := 18) (x := true) (b := false) rfl rfl rfl rfl) (by kernel_rfl) rfl
      · exact obR_skip (want_is hEA (g := 18) (x := true) (b := false) rfl rfl rfl rfl) (by kernel_rfl) rfl
      · refine obR_val (want_none rfl) (by kernel_rfl) (fun ph w' hp hpm hw => ?_)
        have e30 : Fr.tmps[30]? = some (.bool true) := hEA.dst 18 _ 30 rfl rfl; have e34 : Fr.tmps[34]? = some (undef) := hEA.dst 22 _ 34 rfl rfl; simp [execOp, e30, e34, go_sem]
    · intro r w' hw
      simp only [laid, Act.put, List.setIfInBounds_toArray, List.set_cons_succ, List.set_cons_zero, List.getD_cons_succ, List.getD_cons_zero, Nat.zero_add, Nat.reduceAdd]
      obtain ⟨w2, hw2⟩ : ∃ w2, w' = w2 := ⟨_, rfl⟩
      rw [hw2] at hw
      try rw [hw2]
      clear hw2
      have B2 := B.trans (hw.mono B.size)
      clear hw B HX b0
      go_wp2_with fail
      refine (awake15_any w2).mono ?_
      rintro e W9 ⟨rfl, B9⟩
      go_wp2
      go_ret
      exact ⟨rfl, B2.trans (B9.mono B2.size)⟩
  · have hd : decide ((15 : Int) < (xs.length : Int)) = false := decide_eq_false (by omega)
    have hxl : xs.length ≤ 1000000 := by omega
    by_cases h0 : xs.length = 0
    · have hd0 : ((xs.length : Int) == 0) = true := beq_iff_eq.2 (by omega)
      refine wp_region_results (fun r i => ([.slice A xs.length ca, .int .i64 (xs.length : Int), .bool false, .bool false, .slice A xs.length ca, .int .i64 (xs.length : Int), .bool true, .bool true, .bool true, undef, undef, undef, .bool true, .bool true, undef, undef, undef, .bool true, .bool true, undef, undef, undef, undef, .bool true] : List Value).getD i undef) [] [0, 0, 0, 0, 0, 0, 0, 0, 0, 0, 0, 0, 0, 0, 0, 0, 0, 0, 0, 0, 0, 0, 0, 0] (fun r q w' => (Below W0.heap.size W0 w')) (by kernel_rfl) (by kernel_rfl) (fun r => ⟨rfl, rfl, rfl, Nat.le_refl _, fun _ _ => rfl⟩) ?_ ?_
      · refine ObsR_of_ends (by kernel_rfl) ?_
        intro r Fr hEA
        refine ⟨?_, ?_, ?_, ?_, ?_, ?_, ?_, ?_, ?_, ?_, ?_, ?_, ?_, ?_, ?_, ?_, ?_, ?_, ?_, ?_, ?_, ?_, ?_, ?_, trivial⟩
        · exact obR_move _ rfl (want_none rfl) (by kernel_rfl) (eval_out hEA (d := 0) (by kernel_rfl))
        · refine obR_val (want_none rfl) (by kernel_rfl) (fun ph w' hp hpm hw => ?_)
          have e12 : Fr.tmps[12]? = some (.slice A xs.length ca) := hEA.dst 0 _ 12 rfl rfl; simp [e12, go_sem]
        · refine obR_val (want_none rfl) (by kernel_rfl) (fun ph w' hp hpm hw => ?_)
          have e13 : Fr.tmps[13]? = some (.int .i64 (xs.length : Int)) := hEA.dst 1 _ 13 rfl rfl; simp [execOp, e13, hd, go_sem]
        · exact obR_move _ rfl (want_none rfl) (by kernel_rfl) (eval_dst hEA (j := 2) rfl rfl)
        · exact obR_move _ rfl (want_is hEA (g := 3) (x := false) (b := false) rfl rfl rfl rfl) (by kernel_rfl) (eval_out hEA (d := 0) (by kernel_rfl))
        · refine obR_val (want_is hEA (g := 3) (x := false) (b := false) rfl rfl rfl rfl) (by kernel_rfl) (fun ph w' hp hpm hw => ?_)
          have e16 : Fr.tmps[16]? = some (.slice A xs.length ca) := hEA.dst 4 _ 16 rfl rfl; simp [e16, go_sem]
        · refine obR_val (want_is hEA (g := 3) (x := false) (b := false) rfl rfl rfl rfl) (by kernel_rfl) (fun ph w' hp hpm hw => ?_)
          have e17 : Fr.tmps[17]? = some (.int .i64 (xs.length : Int)) := hEA.dst 5 _ 17 rfl rfl; simp [execOp, e17, hd0, go_sem]
        · refine obR_val (want_none rfl) (by kernel_rfl) (fun ph w' hp hpm hw => ?_)
          have e15 : Fr.tmps[15]? = some (.bool false) := hEA.dst 3 _ 15 rfl rfl; have e18 : Fr.tmps[18]? = some (.bool true) := hEA.dst 6 _ 18 rfl rfl; simp [execOp, e15, e18, go_sem]
        · exact obR_move _ rfl (want_none rfl) (by kernel_rfl) (eval_dst hEA (j := 7) rfl rfl)
        · exact obR_skip (want_is hEA (g := 8) (x := true) (b := false) rfl rfl rfl rfl) (by kernel_rfl) rfl
        · exact obR_skip (want_is hEA (g := 8) (x := true) (b := false) rfl rfl rfl rfl) (by kernel_rfl) rfl
        · exact obR_skip (want_is hEA (g := 8) (x := true) (b := false) rfl rfl rfl rfl) (by kernel_rfl) rfl
        · refine obR_val (want_none rfl) (by kernel_rfl) (fun ph w' hp hpm hw => ?_)
          have e20 : Fr.tmps[20]? = some (.bool true) := hEA.dst 8 _ 20 rfl rfl; have e23 : Fr.tmps[23]? = some (undef) := hEA.dst 11 _ 23 rfl rfl; simp [execOp, e20, e23, go_sem]
        · exact obR_move _ rfl (want_none rfl) (by kernel_rfl) (eval_dst hEA (j := 12) rfl rfl)
        · exact obR_skip (want_is hEA (g := 13) (x := true) (b := false) rfl rfl rfl rfl) (by kernel_rfl) rfl
        · exact obR_skip (want_is hEA (g := 13) (x := true) (b := false) rfl rfl rfl rfl) (by kernel_rfl) rfl
        · exact obR_skip (want_is hEA (g := 13) (x := true) (b := false) rfl rfl rfl rfl) (by kernel_rfl) rfl
        · refine obR_val (want_none rfl) (by kernel_rfl) (fun ph w' hp hpm hw => ?_)
          have e25 : Fr.tmps[25]? = some (.bool true) := hEA.dst 13 _ 25 rfl rfl; have e28 : Fr.tmps[28]? = some (undef) := hEA.dst 16 _ 28 rfl rfl; simp [execOp, e25, e28, go_sem]
        · exact obR_move _ rfl (want_none rfl) (by kernel_rfl) (eval_dst hEA (j := 17) rfl rfl)
        · exact obR_skip (want_is hEA (g := 18) (x := true) (b := false) rfl rfl rfl rfl) (by kernel_rfl) rfl
        · exact obR_skip (want_is hEA (g := 18) (x := true) (b := false) rfl rfl rfl rfl) (by kernel_rfl) rfl
        · exact obR_skip (want_is hEA (g := 18) (x := true) (b := false) rfl rfl rfl rfl) (by kernel_rfl) rfl
        · exact obR_skip (want_is hEA (g := 18) (x := true) (b := false) rfl rfl rfl rfl) (by kernel_rfl) rfl
        · refine obR_val (want_none rfl) (by kernel_rfl) (fun ph w' hp hpm hw => ?_)
          have e30 : Fr.tmps[30]? = some (.bool true) := hEA.dst 18 _ 30 rfl rfl; have e34 : Fr.tmps[34]? = some (undef) := hEA.dst 22 _ 34 rfl rfl; simp [execOp, e30, e34, go_sem]
      · intro r w' hw
        simp only [laid, Act.put, List.setIfInBounds_toArray, List.set_cons_succ, List.set_cons_zero, List.getD_cons_succ, List.getD_cons_zero, Nat.zero_add, Nat.reduceAdd]
        obtain ⟨w2, hw2⟩ : ∃ w2, w' = w2 := ⟨_, rfl⟩
        rw [hw2] at hw
        try rw [hw2]
        clear hw2
        have B2 := B.trans (hw.mono B.size)
        clear hw B HX b0
        go_wp2_with fail
        refine (awake15_any w2).mono ?_
        rintro e W9 ⟨rfl, B9⟩
        go_wp2
        go_ret
        exact ⟨rfl, B2.trans (B9.mono B2.size)⟩
    · have hd0 : ((xs.length : Int) == 0) = false := beq_eq_false_iff_ne.2 (by omega)
      cases hrt : okT xs with
      | false =>
        refine wp_region_results (fun r i => ([.slice A xs.length ca, .int .i64 (xs.length : Int), .bool false, .bool false, .slice A xs.length ca, .int .i64 (xs.length : Int), .bool false, .bool false, .bool false, .slice A xs.length ca, .bool false, .bool true, .bool true, .bool true, undef, undef, undef, .bool true, .bool true, undef, undef, undef, undef, .bool true] : List Value).getD i undef) [10] [0, 0, 0, 0, 0, 0, 0, 0, 0, 0, 0, 1, 1, 1, 1, 1, 1, 1, 1, 1, 1, 1, 1, 1] (fun r q w' => (Below W0.heap.size W0 w')) (by kernel_rfl) (by kernel_rfl) (fun r => ⟨rfl, rfl, rfl, Nat.le_refl _, fun _ _ => rfl⟩) ?_ ?_
        · refine ObsR_of_ends (by kernel_rfl) ?_
          intro r Fr hEA
          refine ⟨?_, ?_, ?_, ?_, ?_, ?_, ?_, ?_, ?_, ?_, ?_, ?_, ?_, ?_, ?_, ?_, ?_, ?_, ?_, ?_, ?_, ?_, ?_, ?_, trivial⟩
          · exact obR_move _ rfl (want_none rfl) (by kernel_rfl) (eval_out hEA (d := 0) (by kernel_rfl))
          · refine obR_val (want_none rfl) (by kernel_rfl) (fun ph w' hp hpm hw => ?_)
            have e12 : Fr.tmps[12]? = some (.slice A xs.length ca) := hEA.dst 0 _ 12 rfl rfl; simp [e12, go_sem]
          · refine obR_val (want_none rfl) (by kernel_rfl) (fun ph w' hp hpm hw => ?_)
            have e13 : Fr.tmps[13]? = some (.int .i64 (xs.length : Int)) := hEA.dst 1 _ 13 rfl rfl; simp [execOp, e13, hd, go_sem]
          · exact obR_move _ rfl (want_none rfl) (by kernel_rfl) (eval_dst hEA (j := 2) rfl rfl)
          · exact obR_move _ rfl (want_is hEA (g := 3) (x := false) (b := false) rfl rfl rfl rfl) (by kernel_rfl) (eval_out hEA (d := 0) (by kernel_rfl))
          · refine obR_val (want_is hEA (g := 3) (x := false) (b := false) rfl rfl rfl rfl) (by kernel_rfl) (fun ph w' hp hpm hw => ?_)
            have e16 : Fr.tmps[16]? = some (.slice A xs.length ca) := hEA.dst 4 _ 16 rfl rfl; simp [e16, go_sem]
          · refine obR_val (want_is hEA (g := 3) (x := false) (b := false) rfl rfl rfl rfl) (by kernel_rfl) (fun ph w' hp hpm hw => ?_)
            have e17 : Fr.tmps[17]? = some (.int .i64 (xs.length : Int)) := hEA.dst 5 _ 17 rfl rfl; simp [execOp, e17, hd0, go_sem]
          · refine obR_val (want_none rfl) (by kernel_rfl) (fun ph w' hp hpm hw => ?_)
            have e15 : Fr.tmps[15]? = some (.bool false) := hEA.dst 3 _ 15 rfl rfl; have e18 : Fr.tmps[18]? = some (.bool false) := hEA.dst 6 _ 18 rfl rfl; simp [execOp, e15, e18, go_sem]
          · exact obR_move _ rfl (want_none rfl) (by kernel_rfl) (eval_dst hEA (j := 7) rfl rfl)
          · exact obR_move _ rfl (want_is hEA (g := 8) (x := false) (b := false) rfl rfl rfl rfl) (by kernel_rfl) (eval_out hEA (d := 0) (by kernel_rfl))
          · refine obR_call (q := 0) (f := 13) (args := #[.slice A xs.length ca]) (want_is hEA (g := 8) (x := false) (b := false) rfl rfl rfl rfl) (by kernel_rfl) (fun w' => by have e21 : Fr.tmps[21]? = some (.slice A xs.length ca) := hEA.dst 9 _ 21 rfl rfl; simp [e21, go_sem]) ?_
            intro w' hw
            refine ((show Calls _ _ _ _ (fun e W' => e = .returned (.bool false) ∧ Below w'.heap.size w' W') from by have := refRight_any _ xs w' (keeps_spots _ _ _ _ _ _ HX.out hw hw.size) hxl; rwa [hrt] at this)).mono ?_
            rintro e w2 ⟨rfl, hb⟩
            exact ⟨_, rfl, fun r' hr hv => ⟨rfl, hw.trans (hb.mono hw.size)⟩⟩
          · refine obR_val (want_is hEA (g := 8) (x := false) (b := false) rfl rfl rfl rfl) (by kernel_rfl) (fun ph w' hp hpm hw => ?_)
            have e22 : Fr.tmps[22]? = some (.bool false) := hEA.dst 10 _ 22 rfl rfl; simp [execOp, e22, go_sem]
          · refine obR_val (want_none rfl) (by kernel_rfl) (fun ph w' hp hpm hw => ?_)
            have e20 : Fr.tmps[20]? = some (.bool false) := hEA.dst 8 _ 20 rfl rfl; have e23 : Fr.tmps[23]? = some (.bool true) := hEA.dst 11 _ 23 rfl rfl; simp [execOp, e20, e23, go_sem]
          · exact obR_move _ rfl (want_none rfl) (by kernel_rfl) (eval_dst hEA (j := 12) rfl rfl)
          · exact obR_skip (want_is hEA (g := 13) (x := true) (b := false) rfl rfl rfl rfl) (by kernel_rfl) rfl
          · exact obR_skip (want_is hEA (g := 13) (x := true) (b := false) rfl rfl rfl rfl) (by kernel_rfl) rfl
          · exact obR_skip (want_is hEA (g := 13) (x := true) (b := false) rfl rfl rfl rfl) (by kernel_rfl) rfl
          · refine obR_val (want_none rfl) (by kernel_rfl) (fun ph w' hp hpm hw => ?_)
            have e25 : Fr.tmps[25]? = some (.bool true) := hEA.dst 13 _ 25 rfl rfl; have e28 : Fr.tmps[28]? = some (undef) := hEA.dst 16 _ 28 rfl rfl; simp [execOp, e25, e28, go_sem]
          · exact obR_move _ rfl (want_none rfl) (by kernel_rfl) (eval_dst hEA (j := 17) rfl rfl)
          · exact obR_skip (want_is hEA (g := 18) (x := true) (b := false) rfl rfl rfl rfl) (by kernel_rfl) rfl
          · exact obR_skip (want_is hEA (g := 18) (x := true) (b := false) rfl rfl rfl rfl) (by kernel_rfl) rfl
          · exact obR_skip (want_is hEA (g := 18) (x := true) (b := false) rfl rfl rfl rfl) (by kernel_rfl) rfl
          · exact obR_skip (want_is hEA (g := 18) (x := true) (b := false) rfl rfl rfl rfl) (by kernel_rfl) rfl
          · refine obR_val (want_none rfl) (by kernel_rfl) (fun ph w' hp hpm hw => ?_)
            have e30 : Fr.tmps[30]? = some (.bool true) := hEA.dst 18 _ 30 rfl rfl; have e34 : Fr.tmps[34]? = some (undef) := hEA.dst 22 _ 34 rfl rfl; simp [execOp, e30, e34, go_sem]
        · intro r w' hw
          simp only [laid, Act.put, List.setIfInBounds_toArray, List.set_cons_succ, List.set_cons_zero, List.getD_cons_succ, List.getD_cons_zero, Nat.zero_add, Nat.reduceAdd]
          obtain ⟨w2, hw2⟩ : ∃ w2, w' = w2 := ⟨_, rfl⟩
          rw [hw2] at hw
          try rw [hw2]
          clear hw2
          have B2 := B.trans (hw.mono B.size)
          clear hw B HX b0
          go_wp2_with fail
          refine (awake15_any w2).mono ?_
          rintro e W9 ⟨rfl, B9⟩
          go_wp2
          go_ret
          exact ⟨rfl, B2.trans (B9.mono B2.size)⟩
      | true =>
        cases hok : okM m1 m2 with
        | false =>
          refine wp_region_results (fun r i => ([.slice A xs.length ca, .int .i64 (xs.length : Int), .bool false, .bool false, .slice A xs.length ca, .int .i64 (xs.length : Int), .bool false, .bool false, .bool false, .slice A xs.length ca, .bool true, .bool false, .bool false, .bool false, .agg #[.int .i64 m1, .int .i64 m2], .bool false, .bool true, .bool true, .bool true, undef, undef, undef, undef, .bool true] : List Value).getD i undef) [10, 15] [0, 0, 0, 0, 0, 0, 0, 0, 0, 0, 0, 1, 1, 1, 1, 1, 2, 2, 2, 2, 2, 2, 2, 2] (fun r q w' => (Below W0.heap.size W0 w')) (by kernel_rfl) (by kernel_rfl) (fun r => ⟨rfl, rfl, rfl, Nat.le_refl _, fun _ _ => rfl⟩) ?_ ?_
          · refine ObsR_of_ends (by kernel_rfl) ?_
            intro r Fr hEA
            refine ⟨?_, ?_, ?_, ?_, ?_, ?_, ?_, ?_, ?_, ?_, ?_, ?_, ?_, ?_, ?_, ?_, ?_, ?_, ?_, ?_, ?_, ?_, ?_, ?_, trivial⟩
            · exact obR_move _ rfl (want_none rfl) (by kernel_rfl) (eval_out hEA (d := 0) (by kernel_rfl))
            · refine obR_val (want_none rfl) (by kernel_rfl) (fun ph w' hp hpm hw => ?_)
              have e12 : Fr.tmps[12]? = some (.slice A xs.length ca) := hEA.dst 0 _ 12 rfl rfl; simp [e12, go_sem]
            · refine obR_val (want_none rfl) (by kernel_rfl) (fun ph w' hp hpm hw => ?_)
              have e13 : Fr.tmps[13]? = some (.int .i64 (xs.length : Int)) := hEA.dst 1 _ 13 rfl rfl; simp [execOp, e13, hd, go_sem]
            · exact obR_move _ rfl (want_none rfl) (by kernel_rfl) (eval_dst hEA (j := 2) rfl rfl)
            · exact obR_move _ rfl (want_is hEA (g := 3) (x := false) (b := false) rfl rfl rfl rfl) (by kernel_rfl) (eval_out hEA (d := 0) (by kernel_rfl))
            · refine obR_val (want_is hEA (g := 3) (x := false) (b := false) rfl rfl rfl rfl) (by kernel_rfl) (fun ph w' hp hpm hw => ?_)
              have e16 : Fr.tmps[16]? = some (.slice A xs.length ca) := hEA.dst 4 _ 16 rfl rfl; simp [e16, go_sem]
            · refine obR_val (want_is hEA (g := 3) (x := false) (b := false) rfl rfl rfl rfl) (by kernel_rfl) (fun ph w' hp hpm hw => ?_)
              have e17 : Fr.tmps[17]? = some (.int .i64 (xs.length : Int)) := hEA.dst 5 _ 17 rfl rfl; simp [execOp, e17, hd0, go_sem]
            · refine obR_val (want_none rfl) (by kernel_rfl) (fun ph w' hp hpm hw => ?_)
              have e15 : Fr.tmps[15]? = some (.bool false) := hEA.dst 3 _ 15 rfl rfl; have e18 : Fr.tmps[18]? = some (.bool false) := hEA.dst 6 _ 18 rfl rfl; simp [execOp, e15, e18, go_sem]
            · exact obR_move _ rfl (want_none rfl) (by kernel_rfl) (eval_dst hEA (j := 7) rfl rfl)
            · exact obR_move _ rfl (want_is hEA (g := 8) (x := false) (b := false) rfl rfl rfl rfl) (by kernel_rfl) (eval_out hEA (d := 0) (by kernel_rfl))
            · refine obR_call (q := 0) (f := 13) (args := #[.slice A xs.length ca]) (want_is hEA (g := 8) (x := false) (b := false) rfl rfl rfl rfl) (by kernel_rfl) (fun w' => by have e21 : Fr.tmps[21]? = some (.slice A xs.length ca) := hEA.dst 9 _ 21 rfl rfl; simp [e21, go_sem]) ?_
              intro w' hw
              refine ((show Calls _ _ _ _ (fun e W' => e = .returned (.bool true) ∧ Below w'.heap.size w' W') from by have := refRight_any _ xs w' (keeps_spots _ _ _ _ _ _ HX.out hw hw.size) hxl; rwa [hrt] at this)).mono ?_
              rintro e w2 ⟨rfl, hb⟩
              exact ⟨_, rfl, fun r' hr hv => ⟨rfl, hw.trans (hb.mono hw.size)⟩⟩
            · refine obR_val (want_is hEA (g := 8) (x := false) (b := false) rfl rfl rfl rfl) (by kernel_rfl) (fun ph w' hp hpm hw => ?_)
              have e22 : Fr.tmps[22]? = some (.bool true) := hEA.dst 10 _ 22 rfl rfl; simp [execOp, e22, go_sem]
            · refine obR_val (want_none rfl) (by kernel_rfl) (fun ph w' hp hpm hw => ?_)
              have e20 : Fr.tmps[20]? = some (.bool false) := hEA.dst 8 _ 20 rfl rfl; have e23 : Fr.tmps[23]? = some (.bool false) := hEA.dst 11 _ 23 rfl rfl; simp [execOp, e20, e23, go_sem]
            · exact obR_move _ rfl (want_none rfl) (by kernel_rfl) (eval_dst hEA (j := 12) rfl rfl)
            · refine obR_val (want_is hEA (g := 13) (x := false) (b := false) rfl rfl rfl rfl) (by kernel_rfl) (fun ph w' hp hpm hw => ?_)
              have hc0 := (hw.cell (p := ⟨w.heap.size, 0, none⟩) b0.lt).trans (b0.c 0 _ rfl)
              have hc1 := (hw.cell (p := ⟨w.heap.size, 1, none⟩) b0.lt).trans (b0.c 1 _ rfl)
              have e3 : Fr.tmps[3]? = some (.pointer (some ⟨w.heap.size, 0, none⟩)) := at_out hEA (d := 3) (by kernel_rfl); simp [execOp, e3, hc0, hc1, go_sem]
            · refine obR_call (q := 1) (f := 6) (args := #[.agg #[.int .i64 m1, .int .i64 m2]]) (want_is hEA (g := 13) (x := false) (b := false) rfl rfl rfl rfl) (by kernel_rfl) (fun w' => by have e26 : Fr.tmps[26]? = some (.agg #[.int .i64 m1, .int .i64 m2]) := hEA.dst 14 _ 26 rfl rfl; simp [e26, go_sem]) ?_
              intro w' hw
              refine ((show Calls _ _ _ _ (fun e W' => e = .returned (.bool false) ∧ Below w'.heap.size w' W') from by have := refMright_any m1 m2 w'; rwa [hok] at this)).mono ?_
              rintro e w2 ⟨rfl, hb⟩
              exact ⟨_, rfl, fun r' hr hv => ⟨rfl, hw.trans (hb.mono hw.size)⟩⟩
            · refine obR_val (want_is hEA (g := 13) (x := false) (b := false) rfl rfl rfl rfl) (by kernel_rfl) (fun ph w' hp hpm hw => ?_)
              have e27 : Fr.tmps[27]? = some (.bool false) := hEA.dst 15 _ 27 rfl rfl; simp [execOp, e27, go_sem]
            · refine obR_val (want_none rfl) (by kernel_rfl) (fun ph w' hp hpm hw => ?_)
              have e25 : Fr.tmps[25]? = some (.bool false) := hEA.dst 13 _ 25 rfl rfl; have e28 : Fr.tmps[28]? = some (.bool true) := hEA.dst 16 _ 28 rfl rfl; simp [execOp, e25, e28, go_sem]
            · exact obR_move _ rfl (want_none rfl) (by kernel_rfl) (eval_dst hEA (j := 17) rfl rfl)
            · exact obR_skip (want_is hEA (g := 18) (x := true) (b := false) rfl rfl rfl rfl) (by kernel_rfl) rfl
            · exact obR_skip (want_is hEA (g := 18) (x := true) (b := false) rfl rfl rfl rfl) (by kernel_rfl) rfl
            · exact obR_skip (want_is hEA (g := 18) (x := true) (b := false) rfl rfl rfl rfl) (by kernel_rfl) rfl
            · exact obR_skip (want_is hEA (g := 18) (x := true) (b := false) rfl rfl rfl rfl) (by kernel_rfl) rfl
            · refine obR_val (want_none rfl) (by kernel_rfl) (fun ph w' hp hpm hw => ?_)
              have e30 : Fr.tmps[30]? = some (.bool true) := hEA.dst 18 _ 30 rfl rfl; have e34 : Fr.tmps[34]? = some (undef) := hEA.dst 22 _ 34 rfl rfl; simp [execOp, e30, e34, go_sem]
          · intro r w' hw
            simp only [laid, Act.put, List.setIfInBounds_toArray, List.set_cons_succ, List.set_cons_zero, List.getD_cons_succ, List.getD_cons_zero, Nat.zero_add, Nat.reduceAdd]
            obtain ⟨w2, hw2⟩ : ∃ w2, w' = w2 := ⟨_, rfl⟩
            rw [hw2] at hw
            try rw [hw2]
            clear hw2
            have B2 := B.trans (hw.mono B.size)
            clear hw B HX b0
            go_wp2_with fail
            refine (awake15_any w2).mono ?_
            rintro e W9 ⟨rfl, B9⟩
            go_wp2
            go_ret
            exact ⟨rfl, B2.trans (B9.mono B2.size)⟩
        | true =>
          cases hhas : decide ((m1, m2) ∈ lv xs) with
          | true =>
            refine wp_region_results (fun r i => ([.slice A xs.length ca, .int .i64 (xs.length : Int), .bool false, .bool false, .slice A xs.length ca, .int .i64 (xs.length : Int), .bool false, .bool false, .bool false, .slice A xs.length ca, .bool true, .bool false, .bool false, .bool false, .agg #[.int .i64 m1, .int .i64 m2], .bool true, .bool false, .bool false, .bool false, .slice A xs.length ca, (r 2), .agg #[.int .i64 m1, .int .i64 m2], .bool true, .bool true] : List Value).getD i undef) [10, 15, 20, 22] [0, 0, 0, 0, 0, 0, 0, 0, 0, 0, 0, 1, 1, 1, 1, 1, 2, 2, 2, 2, 2, 2, 3, 4] (fun r q w' => (Below W0.heap.size W0 w') ∧ (2 < q → Mems w'.heap.size w' (lv xs) [(r 2)])) (by kernel_rfl) (by kernel_rfl) (fun r => ⟨⟨rfl, rfl, rfl, Nat.le_refl _, fun _ _ => rfl⟩, fun h => absurd h (Nat.not_lt_zero _)⟩) ?_ ?_
            · refine ObsR_of_ends (by kernel_rfl) ?_
              intro r Fr hEA
              refine ⟨?_, ?_, ?_, ?_, ?_, ?_, ?_, ?_, ?_, ?_, ?_, ?_, ?_, ?_, ?_, ?_, ?_, ?_, ?_, ?_, ?_, ?_, ?_, ?_, trivial⟩
              · exact obR_move _ rfl (want_none rfl) (by kernel_rfl) (eval_out hEA (d := 0) (by kernel_rfl))
              · refine obR_val (want_none rfl) (by kernel_rfl) (fun ph w' hp hpm hw => ?_)
                have e12 : Fr.tmps[12]? = some (.slice A xs.length ca) := hEA.dst 0 _ 12 rfl rfl; simp [e12, go_sem]
              · refine obR_val (want_none rfl) (by kernel_rfl) (fun ph w' hp hpm hw => ?_)
                have e13 : Fr.tmps[13]? = some (.int .i64 (xs.length : Int)) := hEA.dst 1 _ 13 rfl rfl; simp [execOp, e13, hd, go_sem]
              · exact obR_move _ rfl (want_none rfl) (by kernel_rfl) (eval_dst hEA (j := 2) rfl rfl)
              · exact obR_move _ rfl (want_is hEA (g := 3) (x := false) (b := false) rfl rfl rfl rfl) (by kernel_rfl) (eval_out hEA (d := 0) (by kernel_rfl))
              · refine obR_val (want_is hEA (g := 3) (x := false) (b := false) rfl rfl rfl rfl) (by kernel_rfl) (fun ph w' hp hpm hw => ?_)
                have e16 : Fr.tmps[16]? = some (.slice A xs.length ca) := hEA.dst 4 _ 16 rfl rfl; simp [e16, go_sem]
              · refine obR_val (want_is hEA (g := 3) (x := false) (b := false) rfl rfl rfl rfl) (by kernel_rfl) (fun ph w' hp hpm hw => ?_)
                have e17 : Fr.tmps[17]? = some (.int .i64 (xs.length : Int)) := hEA.dst 5 _ 17 rfl rfl; simp [execOp, e17, hd0, go_sem]
              · refine obR_val (want_none rfl) (by kernel_rfl) (fun ph w' hp hpm hw => ?_)
                have e15 : Fr.tmps[15]? = some (.bool false) := hEA.dst 3 _ 15 rfl rfl; have e18 : Fr.tmps[18]? = some (.bool false) := hEA.dst 6 _ 18 rfl rfl; simp [execOp, e15, e18, go_sem]
              · exact obR_move _ rfl (want_none rfl) (by kernel_rfl) (eval_dst hEA (j := 7) rfl rfl)
              · exact obR_move _ rfl (want_is hEA (g := 8) (x := false) (b := false) rfl rfl rfl rfl) (by kernel_rfl) (eval_out hEA (d := 0) (by kernel_rfl))
              · refine obR_call (q := 0) (f := 13) (args := #[.slice A xs.length ca]) (want_is hEA (g := 8) (x := false) (b := false) rfl rfl rfl rfl) (by kernel_rfl) (fun w' => by have e21 : Fr.tmps[21]? = some (.slice A xs.length ca) := hEA.dst 9 _ 21 rfl rfl; simp [e21, go_sem]) ?_
                intro w' hw
                refine ((show Calls _ _ _ _ (fun e W' => e = .returned (.bool true) ∧ Below w'.heap.size w' W') from by have := refRight_any _ xs w' (keeps_spots _ _ _ _ _ _ HX.out hw.1 hw.1.size) hxl; rwa [hrt] at this)).mono ?_
                rintro e w2 ⟨rfl, hb⟩
                exact ⟨_, rfl, fun r' hr hv => ⟨rfl, ⟨hw.1.trans (hb.mono hw.1.size), fun h => absurd h (by decide)⟩⟩⟩
              · refine obR_val (want_is hEA (g := 8) (x := false) (b := false) rfl rfl rfl rfl) (by kernel_rfl) (fun ph w' hp hpm hw => ?_)
                have e22 : Fr.tmps[22]? = some (.bool true) := hEA.dst 10 _ 22 rfl rfl; simp [execOp, e22, go_sem]
              · refine obR_val (want_none rfl) (by kernel_rfl) (fun ph w' hp hpm hw => ?_)
                have e20 : Fr.tmps[20]? = some (.bool false) := hEA.dst 8 _ 20 rfl rfl; have e23 : Fr.tmps[23]? = some (.bool false) := hEA.dst 11 _ 23 rfl rfl; simp [execOp, e20, e23, go_sem]
              · exact obR_move _ rfl (want_none rfl) (by kernel_rfl) (eval_dst hEA (j := 12) rfl rfl)
              · refine obR_val (want_is hEA (g := 13) (x := false) (b := false) rfl rfl rfl rfl) (by kernel_rfl) (fun ph w' hp hpm hw => ?_)
                have hc0 := (hw.1.cell (p := ⟨w.heap.size, 0, none⟩) b0.lt).trans (b0.c 0 _ rfl)
                have hc1 := (hw.1.cell (p := ⟨w.heap.size, 1, none⟩) b0.lt).trans (b0.c 1 _ rfl)
                have e3 : Fr.tmps[3]? = some (.pointer (some ⟨w.heap.size, 0, none⟩)) := at_out hEA (d := 3) (by kernel_rfl); simp [execOp, e3, hc0, hc1, go_sem]
              · refine obR_call (q := 1) (f := 6) (args := #[.agg #[.int .i64 m1, .int .i64 m2]]) (want_is hEA (g := 13) (x := false) (b := false) rfl rfl rfl rfl) (by kernel_rfl) (fun w' => by have e26 : Fr.tmps[26]? = some (.agg #[.int .i64 m1, .int .i64 m2]) := hEA.dst 14 _ 26 rfl rfl; simp [e26, go_sem]) ?_
                intro w' hw
                refine ((show Calls _ _ _ _ (fun e W' => e = .returned (.bool true) ∧ Below w'.heap.size w' W') from by have := refMright_any m1 m2 w'; rwa [hok] at this)).mono ?_
                rintro e w2 ⟨rfl, hb⟩
                exact ⟨_, rfl, fun r' hr hv => ⟨rfl, ⟨hw.1.trans (hb.mono hw.1.size), fun h => absurd h (by decide)⟩⟩⟩
              · refine obR_val (want_is hEA (g := 13) (x := false) (b := false) rfl rfl rfl rfl) (by kernel_rfl) (fun ph w' hp hpm hw => ?_)
                have e27 : Fr.tmps[27]? = some (.bool true) := hEA.dst 15 _ 27 rfl rfl; simp [execOp, e27, go_sem]
              · refine obR_val (want_none rfl) (by kernel_rfl) (fun ph w' hp hpm hw => ?_)
                have e25 : Fr.tmps[25]? = some (.bool false) := hEA.dst 13 _ 25 rfl rfl; have e28 : Fr.tmps[28]? = some (.bool false) := hEA.dst 16 _ 28 rfl rfl; simp [execOp, e25, e28, go_sem]
              · exact obR_move _ rfl (want_none rfl) (by kernel_rfl) (eval_dst hEA (j := 17) rfl rfl)
              · exact obR_move _ rfl (want_is hEA (g := 18) (x := false) (b := false) rfl rfl rfl rfl) (by kernel_rfl) (eval_out hEA (d := 0) (by kernel_rfl))
              · refine obR_call (q := 2) (f := 9) (args := #[.slice A xs.length ca]) (want_is hEA (g := 18) (x := false) (b := false) rfl rfl rfl rfl) (by kernel_rfl) (fun w' => by have e31 : Fr.tmps[31]? = some (.slice A xs.length ca) := hEA.dst 19 _ 31 rfl rfl; simp [e31, go_sem]) ?_
                intro w' hw
                refine (refLeaves_any _ xs w' (keeps_spots _ _ _ _ _ _ HX.out hw.1 hw.1.size) hxl).mono ?_
                rintro e w2 ⟨v', rfl, hs, hb⟩
                exact ⟨_, rfl, fun r' hr hv => ⟨hv, ⟨hw.1.trans (hb.mono hw.1.size), fun _ => by rw [hv]; exact hs⟩⟩⟩
              · refine obR_val (want_is hEA (g := 18) (x := false) (b := false) rfl rfl rfl rfl) (by kernel_rfl) (fun ph w' hp hpm hw => ?_)
                have hc0 := (hw.1.cell (p := ⟨w.heap.size, 0, none⟩) b0.lt).trans (b0.c 0 _ rfl)
                have hc1 := (hw.1.cell (p := ⟨w.heap.size, 1, none⟩) b0.lt).trans (b0.c 1 _ rfl)
                have e3 : Fr.tmps[3]? = some (.pointer (some ⟨w.heap.size, 0, none⟩)) := at_out hEA (d := 3) (by kernel_rfl); simp [execOp, e3, hc0, hc1, go_sem]
              · refine obR_call (q := 3) (f := 7) (args := #[(r 2), .agg #[.int .i64 m1, .int .i64 m2]]) (want_is hEA (g := 18) (x := false) (b := false) rfl rfl rfl rfl) (by kernel_rfl) (fun w' => by have e32 : Fr.tmps[32]? = some ((r 2)) := hEA.dst 20 _ 32 rfl rfl; have e33 : Fr.tmps[33]? = some (.agg #[.int .i64 m1, .int .i64 m2]) := hEA.dst 21 _ 33 rfl rfl; simp [e32, e33, go_sem]) ?_
                intro w' hw
                refine ((show Calls _ _ _ _ (fun e W' => e = .returned (.bool true) ∧ Below w'.heap.size w' W') from by have := refHas_any (r 2) (lv xs) m1 m2 w' (hw.2 (by decide)); rwa [hhas] at this)).mono ?_
                rintro e w2 ⟨rfl, hb⟩
                exact ⟨_, rfl, fun r' hr hv => ⟨rfl, ⟨hw.1.trans (hb.mono hw.1.size), fun _ => by rw [hr 2 (by decide)]; exact keeps_mems _ _ _ _ _ _ (hw.2 (by decide)) hb hb.size⟩⟩⟩
              · refine obR_val (want_none rfl) (by kernel_rfl) (fun ph w' hp hpm hw => ?_)
                have e30 : Fr.tmps[30]? = some (.bool false) := hEA.dst 18 _ 30 rfl rfl; have e34 : Fr.tmps[34]? = some (.bool true) := hEA.dst 22 _ 34 rfl rfl; simp [execOp, e30, e34, go_sem]
            · intro r w' hw
              simp only [laid, Act.put, List.setIfInBounds_toArray, List.set_cons_succ, List.set_cons_zero, List.getD_cons_succ, List.getD_cons_zero, Nat.zero_add, Nat.reduceAdd]
              obtain ⟨w2, hw2⟩ : ∃ w2, w' = w2 := ⟨_, rfl⟩
              rw [hw2] at hw
              try rw [hw2]
              clear hw2
              have B2 := B.trans (hw.1.mono B.size)
              clear hw B HX b0
              go_wp2_with fail
              refine (awake15_any w2).mono ?_
              rintro e W9 ⟨rfl, B9⟩
              go_wp2
              go_ret
              exact ⟨rfl, B2.trans (B9.mono B2.size)⟩
          | false =>
            refine wp_region_results (fun r i => ([.slice A xs.length ca, .int .i64 (xs.length : Int), .bool false, .bool false, .slice A xs.length ca, .int .i64 (xs.length : Int), .bool false, .bool false, .bool false, .slice A xs.length ca, .bool true, .bool false, .bool false, .bool false, .agg #[.int .i64 m1, .int .i64 m2], .bool true, .bool false, .bool false, .bool false, .slice A xs.length ca, (r 2), .agg #[.int .i64 m1, .int .i64 m2], .bool false, .bool false] : List Value).getD i undef) [10, 15, 20, 22] [0, 0, 0, 0, 0, 0, 0, 0, 0, 0, 0, 1, 1, 1, 1, 1, 2, 2, 2, 2, 2, 2, 3, 4] (fun r q w' => (Below W0.heap.size W0 w') ∧ (2 < q → Mems w'.heap.size w' (lv xs) [(r 2)])) (by kernel_rfl) (by kernel_rfl) (fun r => ⟨⟨rfl, rfl, rfl, Nat.le_refl _, fun _ _ => rfl⟩, fun h => absurd h (Nat.not_lt_zero _)⟩) ?_ ?_
            · refine ObsR_of_ends (by kernel_rfl) ?_
              intro r Fr hEA
              refine ⟨?_, ?_, ?_, ?_, ?_, ?_, ?_, ?_, ?_, ?_, ?_, ?_, ?_, ?_, ?_, ?_, ?_, ?_, ?_, ?_, ?_, ?_, ?_, ?_, trivial⟩
              · exact obR_move _ rfl (want_none rfl) (by kernel_rfl) (eval_out hEA (d := 0) (by kernel_rfl))
              · refine obR_val (want_none rfl) (by kernel_rfl) (fun ph w' hp hpm hw => ?_)
                have e12 : Fr.tmps[12]? = some (.slice A xs.length ca) := hEA.dst 0 _ 12 rfl rfl; simp [e12, go_sem]
              · refine obR_val (want_none rfl) (by kernel_rfl) (fun ph w' hp hpm hw => ?_)
                have e13 : Fr.tmps[13]? = some (.int .i64 (xs.length : Int)) := hEA.dst 1 _ 13 rfl rfl; simp [execOp, e13, hd, go_sem]
              · exact obR_move _ rfl (want_none rfl) (by kernel_rfl) (eval_dst hEA (j := 2) rfl rfl)
              · exact obR_move _ rfl (want_is hEA (g := 3) (x := false) (b := false) rfl rfl rfl rfl) (by kernel_rfl) (eval_out hEA (d := 0) (by kernel_rfl))
              · refine obR_val (want_is hEA (g := 3) (x := false) (b := false) rfl rfl rfl rfl) (by kernel_rfl) (fun ph w' hp hpm hw => ?_)
                have e16 : Fr.tmps[16]? = some (.slice A xs.length ca) := hEA.dst 4 _ 16 rfl rfl; simp [e16, go_sem]
              · refine obR_val (want_is hEA (g := 3) (x := false) (b := false) rfl rfl rfl rfl) (by kernel_rfl) (fun ph w' hp hpm hw => ?_)
                have e17 : Fr.tmps[17]? = some (.int .i64 (xs.length : Int)) := hEA.dst 5 _ 17 rfl rfl; simp [execOp, e17, hd0, go_sem]
              · refine obR_val (want_none rfl) (by kernel_rfl) (fun ph w' hp hpm hw => ?_)
                have e15 : Fr.tmps[15]? = some (.bool false) := hEA.dst 3 _ 15 rfl rfl; have e18 : Fr.tmps[18]? = some (.bool false) := hEA.dst 6 _ 18 rfl rfl; simp [execOp, e15, e18, go_sem]
              · exact obR_move _ rfl (want_none rfl) (by kernel_rfl) (eval_dst hEA (j := 7) rfl rfl)
              · exact obR_move _ rfl (want_is hEA (g := 8) (x := false) (b := false) rfl rfl rfl rfl) (by kernel_rfl) (eval_out hEA (d := 0) (by kernel_rfl))
              · refine obR_call (q := 0) (f := 13) (args := #[.slice A xs.length ca]) (want_is hEA (g := 8) (x := false) (b := false) rfl rfl rfl rfl) (by kernel_rfl) (fun w' => by have e21 : Fr.tmps[21]? = some (.slice A xs.length ca) := hEA.dst 9 _ 21 rfl rfl; simp [e21, go_sem]) ?_
                intro w' hw
                refine ((show Calls _ _ _ _ (fun e W' => e = .returned (.bool true) ∧ Below w'.heap.size w' W') from by have := refRight_any _ xs w' (keeps_spots _ _ _ _ _ _ HX.out hw.1 hw.1.size) hxl; rwa [hrt] at this)).mono ?_
                rintro e w2 ⟨rfl, hb⟩
                exact ⟨_, rfl, fun r' hr hv => ⟨rfl, ⟨hw.1.trans (hb.mono hw.1.size), fun h => absurd h (by decide)⟩⟩⟩
              · refine obR_val (want_is hEA (g := 8) (x := false) (b := false) rfl rfl rfl rfl) (by kernel_rfl) (fun ph w' hp hpm hw => ?_)
                have e22 : Fr.tmps[22]? = some (.bool true) := hEA.dst 10 _ 22 rfl rfl; simp [execOp, e22, go_sem]
              · refine obR_val (want_none rfl) (by kernel_rfl) (fun ph w' hp hpm hw => ?_)
                have e20 : Fr.tmps[20]? = some (.bool false) := hEA.dst 8 _ 20 rfl rfl; have e23 : Fr.tmps[23]? = some (.bool false) := hEA.dst 11 _ 23 rfl rfl; simp [execOp, e20, e23, go_sem]
              · exact obR_move _ rfl (want_none rfl) (by kernel_rfl) (eval_dst hEA (j := 12) rfl rfl)
              · refine obR_val (want_is hEA (g := 13) (x := false) (b := false) rfl rfl rfl rfl) (by kernel_rfl) (fun ph w' hp hpm hw => ?_)
                have hc0 := (hw.1.cell (p := ⟨w.heap.size, 0, none⟩) b0.lt).trans (b0.c 0 _ rfl)
                have hc1 := (hw.1.cell (p := ⟨w.heap.size, 1, none⟩) b0.lt).trans (b0.c 1 _ rfl)
                have e3 : Fr.tmps[3]? = some (.pointer (some ⟨w.heap.size, 0, none⟩)) := at_out hEA (d := 3) (by kernel_rfl); simp [execOp, e3, hc0, hc1, go_sem]
              · refine obR_call (q := 1) (f := 6) (args := #[.agg #[.int .i64 m1, .int .i64 m2]]) (want_is hEA (g := 13) (x := false) (b := false) rfl rfl rfl rfl) (by kernel_rfl) (fun w' => by have e26 : Fr.tmps[26]? = some (.agg #[.int .i64 m1, .int .i64 m2]) := hEA.dst 14 _ 26 rfl rfl; simp [e26, go_sem]) ?_
                intro w' hw
                refine ((show Calls _ _ _ _ (fun e W' => e = .returned (.bool true) ∧ Below w'.heap.size w' W') from by have := refMright_any m1 m2 w'; rwa [hok] at this)).mono ?_
                rintro e w2 ⟨rfl, hb⟩
                exact ⟨_, rfl, fun r' hr hv => ⟨rfl, ⟨hw.1.trans (hb.mono hw.1.size), fun h => absurd h (by decide)⟩⟩⟩
              · refine obR_val (want_is hEA (g := 13) (x := false) (b := false) rfl rfl rfl rfl) (by kernel_rfl) (fun ph w' hp hpm hw => ?_)
                have e27 : Fr.tmps[27]? = some (.bool true) := hEA.dst 15 _ 27 rfl rfl; simp [execOp, e27, go_sem]
              · refine obR_val (want_none rfl) (by kernel_rfl) (fun ph w' hp hpm hw => ?_)
                have e25 : Fr.tmps[25]? = some (.bool false) := hEA.dst 13 _ 25 rfl rfl; have e28 : Fr.tmps[28]? = some (.bool false) := hEA.dst 16 _ 28 rfl rfl; simp [execOp, e25, e28, go_sem]
              · exact obR_move _ rfl (want_none rfl) (by kernel_rfl) (eval_dst hEA (j := 17) rfl rfl)
              · exact obR_move _ rfl (want_is hEA (g := 18) (x := false) (b := false) rfl rfl rfl rfl) (by kernel_rfl) (eval_out hEA (d := 0) (by kernel_rfl))
              · refine obR_call (q := 2) (f := 9) (args := #[.slice A xs.length ca]) (want_is hEA (g := 18) (x := false) (b := false) rfl rfl rfl rfl) (by kernel_rfl) (fun w' => by have e31 : Fr.tmps[31]? = some (.slice A xs.length ca) := hEA.dst 19 _ 31 rfl rfl; simp [e31, go_sem]) ?_
                intro w' hw
                refine (refLeaves_any _ xs w' (keeps_spots _ _ _ _ _ _ HX.out hw.1 hw.1.size) hxl).mono ?_
                rintro e w2 ⟨v', rfl, hs, hb⟩
                exact ⟨_, rfl, fun r' hr hv => ⟨hv, ⟨hw.1.trans (hb.mono hw.1.size), fun _ => by rw [hv]; exact hs⟩⟩⟩
              · refine obR_val (want_is hEA (g := 18) (x := false) (b := false) rfl rfl rfl rfl) (by kernel_rfl) (fun ph w' hp hpm hw => ?_)
                have hc0 := (hw.1.cell (p := ⟨w.heap.size, 0, none⟩) b0.lt).trans (b0.c 0 _ rfl)
                have hc1 := (hw.1.cell (p := ⟨w.heap.size, 1, none⟩) b0.lt).trans (b0.c 1 _ rfl)
                have e3 : Fr.tmps[3]? = some (.pointer (some ⟨w.heap.size, 0, none⟩)) := at_out hEA (d := 3) (by kernel_rfl); simp [execOp, e3, hc0, hc1, go_sem]
              · refine obR_call (q := 3) (f := 7) (args := #[(r 2), .agg #[.int .i64 m1, .int .i64 m2]]) (want_is hEA (g := 18) (x := false) (b := false) rfl rfl rfl rfl) (by kernel_rfl) (fun w' => by have e32 : Fr.tmps[32]? = some ((r 2)) := hEA.dst 20 _ 32 rfl rfl; have e33 : Fr.tmps[33]? = some (.agg #[.int .i64 m1, .int .i64 m2]) := hEA.dst 21 _ 33 rfl rfl; simp [e32, e33, go_sem]) ?_
                intro w' hw
                refine ((show Calls _ _ _ _ (fun e W' => e = .returned (.bool false) ∧ Below w'.heap.size w' W') from by have := refHas_any (r 2) (lv xs) m1 m2 w' (hw.2 (by decide)); rwa [hhas] at this)).mono ?_
                rintro e w2 ⟨rfl, hb⟩
                exact ⟨_, rfl, fun r' hr hv => ⟨rfl, ⟨hw.1.trans (hb.mono hw.1.size), fun _ => by rw [hr 2 (by decide)]; exact keeps_mems _ _ _ _ _ _ (hw.2 (by decide)) hb hb.size⟩⟩⟩
              · refine obR_val (want_none rfl) (by kernel_rfl) (fun ph w' hp hpm hw => ?_)
                have e30 : Fr.tmps[30]? = some (.bool false) := hEA.dst 18 _ 30 rfl rfl; have e34 : Fr.tmps[34]? = some (.bool false) := hEA.dst 22 _ 34 rfl rfl; simp [execOp, e30, e34, go_sem]
            · intro r w' hw
              simp only [laid, Act.put, List.setIfInBounds_toArray, List.set_cons_succ, List.set_cons_zero, List.getD_cons_succ, List.getD_cons_zero, Nat.zero_add, Nat.reduceAdd]
              obtain ⟨W1, hw2⟩ : ∃ W1, w' = W1 := ⟨_, rfl⟩
              rw [hw2] at hw
              try rw [hw2]
              clear hw2
              have hb := hw.1
              clear hw
              replace HX := Lib.hid (keeps_spots _ _ _ _ _ _ HX.out hb hb.size)
              replace b0 := b0.next hb
              replace B := B.trans (hb.mono B.size)
              obtain ⟨t, rfl⟩ : ∃ t, xs = flat t := by
                obtain ⟨ot, e⟩ := spo_of hrt
                cases ot with
                | none => rw [e] at h0; exact absurd rfl h0
                | some t => exact ⟨t, e⟩
              have hmn : (m1, m2) ∉ lvO (some t) := of_decide_eq_false hhas
              have HFF := Lib.hid (one_facts15 (t := t) (m := (m1, m2)) hrt (by omega) hok hmn)
              have HRT := Lib.hid (show okT (spo (some t)) = true from hrt)
              replace HX : Hid (Spots W1.heap.size W1 (spo (some t)) [.slice A (flat t).length ca]) := HX
              have hc15 : (flat t).length ≤ 15 := by omega
              obtain ⟨ms, hms⟩ : ∃ ms, lvO (some t) = ms := ⟨_, rfl⟩
              obtain ⟨nm, hnm⟩ : ∃ n, ms.length = n := ⟨_, rfl⟩
              have hnm8 : nm ≤ 8 := by have := spo_count t; rw [hms, hnm] at this; have h2 : (spo (some t)).length = (flat t).length := rfl; omega
              obtain ⟨N, hN⟩ : ∃ N, (flat t).length = N := ⟨_, rfl⟩
              have HN := Lib.hid hN
              have HMS := Lib.hid hms
              have HNM := Lib.hid hnm
              rw [hN] at HX hlc
              rw [hN]
              rw [hms, hN] at HFF
              have hNl : N ≤ 15 := by omega
              clear hb hd hd0 hok hhas hmn hrt h0 h15 hms hnm hN hxl hc15
              go_wp2_with fail
              obtain ⟨W2, hW, b5, hb⟩ : ∃ W, W1.alloc (.cells #[.int .i64 1, .int .i64 0, .int .i64 1, .slice A N ca] 34) = W ∧ Box W W1.heap.size [.int .i64 1, .int .i64 0, .int .i64 1, .slice A N ca] ∧ Below W1.heap.size W1 W := ⟨_, rfl, Box.new W1 _ _, below_new _ _⟩
              rw [hW]
              obtain ⟨g5, hg⟩ : ∃ g, W1.heap.size = g := ⟨_, rfl⟩
              rw [hg] at b5
              try rw [hg]
              replace HX := Lib.hid (keeps_spots _ _ _ _ _ _ HX.out hb hb.size)
              replace b0 := b0.next hb
              replace B := B.trans (hb.mono B.size)
              clear hb
              clear hW hg
              go_wp2_with fail
              refine (refLeaves_any _ (flat t) W2 HX.out (by rw [HN.out]; omega)).mono ?_
              rintro e W3 ⟨vm, rfl, hm, hb⟩
              replace HX := Lib.hid (keeps_spots _ _ _ _ _ _ HX.out hb hb.size)
              replace b0 := b0.next hb
              replace b5 := b5.next hb
              replace B := B.trans (hb.mono B.size)
              clear hb
              replace hm : Mems W3.heap.size W3 (lvO (some t)) [vm] := hm
              rw [HMS.out] at hm
              have HM := Lib.hid hm
              clear hm
              obtain ⟨A7, c7, e7, hlc7, hcm7, hp7⟩ := mems_at HM.out
              subst e7
              have hc7 : c7 ≤ 9223372036854775807 := Nat.le_trans hcm7 (by decide)
              have HP := Lib.hid hp7
              rw [HNM.out] at HM hlc7
              rw [HNM.out]
              clear hp7 hcm7
              obtain ⟨N0, hN0⟩ : ∃ n, W3.heap.size = n := ⟨_, rfl⟩
              have HN0 := Lib.hid hN0
              have hwN : w.heap.size ≤ N0 := by rw [← hN0]; exact B.size
              have BN0 : Below N0 W3 W3 := by rw [← hN0]; exact Below.refl _ _
              have hNW0 : N0 ≤ W3.heap.size := Nat.le_of_eq hN0.symm
              have HST := Lib.hid (fun k (hk : k < ms.length) => old_step (A, N, ca) ms k hk)
              have hb5 : g5 < N0 := by rw [← hN0]; exact b5.lt
              clear hN0
              go_wp2_with fail
              go_loopw [6, 8] (fun s i wr => ∃ (k : Nat) (wq : World) (uq : Value), wq = wr ∧ uq = s ∧ k ≤ nm ∧ i = .int .i64 (k : Int) ∧ wr.ownsRow N0 36 11 s k (((ms.take k).map (oldH (A, N, ca))).flatMap fhC) ∧ Below N0 W3 wr ∧ N0 ≤ wr.heap.size) (fun _ i _ => nm - (intOf i).toNat)
              case atStart => exact ⟨0, _, _, rfl, rfl, Nat.zero_le _, rfl, World.ownsRow_nil _ _ _ _, BN0, hNW0⟩
              case round =>
                clear BN0 hNW0
                obtain ⟨k, wr, s, rfl, rfl, hk, rfl, hown, BN, hNw⟩ := hrel
                by_cases hlt : k < nm
                · have hd : decide (k < nm) = true := decide_eq_true hlt
                  have hi : (k : Int) < (nm : Int) := by omega
                  have hge : (0 : Int) ≤ (k : Int) := by omega
                  have hkm : k < ms.length := by rw [HNM.out]; exact hlt
                  obtain ⟨g, off, rfl, hbn, hc0, hc1⟩ := HP.out k hkm
                  have hbN : g < N0 := by rw [← HN0.out]; exact hbn
                  have HS1 := Lib.hid (HST.out k hkm)
                  obtain ⟨⟨x, y⟩, hb⟩ : ∃ b, ms[k] = b := ⟨_, rfl⟩
                  rw [hb] at hc0 hc1 HS1
                  obtain ⟨X, hX⟩ : ∃ X, ((ms.take k).map (oldH (A, N, ca))).flatMap fhC = X := ⟨_, rfl⟩
                  have HS2 : Hid (((ms.take (k + 1)).map (oldH (A, N, ca))).flatMap fhC = X ++ [oldH (A, N, ca) (x, y)].flatMap fhC) := Lib.hid (by rw [HS1.out, List.flatMap_append, hX])
                  rw [hX] at hown
                  clear hb hX HS1
                  have hown0 := Lib.hid hown
                  clear hown
                  go_wp2_with fail
                  refine wp_region_any_tail ([_, _, _, _, _, _, _, _, _]) ([_]) (fun r i => ([s, .slice (some ⟨g, off, none⟩) nm c7, .int .i64 (k : Int), .pointer (some ⟨g, off + k * 2, none⟩), .agg #[.int .i64 x, .int .i64 y], .agg #[.int .i64 1, .int .i64 0, .int .i64 1, .slice A N ca], .agg #[.int .i64 x, .int .i64 y, .int .i64 0, .int .i64 0, .int .i64 0, .slice none 0 0, .int .i64 1, .int .i64 0, .int .i64 1, .slice A N ca, .bool false], (r 0), (r 1)] : List Value).getD i undef) [7, 8] [[], [], [], [], [], [], [], [], [0]] (fun r D w' => Below N0 W3 w' ∧ N0 ≤ w'.heap.size ∧ (D 0 = true → D 1 = false → FHs w'.heap.size w' [oldH (A, N, ca) (x, y)] [r 0]) ∧ (D 1 = false → w'.ownsRow N0 36 11 s k X) ∧ (D 1 = true → w'.ownsRow N0 36 11 (r 1) (k + [oldH (A, N, ca) (x, y)].length) (X ++ [oldH (A, N, ca) (x, y)].flatMap fhC))) (by kernel_rfl) (by kernel_rfl) (by kernel_rfl) (fun r => ⟨⟨BN.os, BN.tape, BN.output, BN.size, BN.block⟩, hNw, (fun h => by cases h), (fun _ => hown0.out), (fun h => by cases h)⟩) ?_ ?_
                  · refine ObsV_of_ends (by kernel_rfl) ?_
                    intro r Fr hEA
                    refine ⟨?_, ?_, ?_, ?_, ?_, ?_, ?_, ?_, ?_, trivial⟩
                    · exact obS_move _ rfl (want_none rfl) (by kernel_rfl) (eval_outV hEA (d := 6) (by kernel_rfl))
                    · exact obS_move _ rfl (want_none rfl) (by kernel_rfl) (eval_outV hEA (d := 7) (by kernel_rfl))
                    · exact obS_move _ rfl (want_none rfl) (by kernel_rfl) (eval_outV hEA (d := 8) (by kernel_rfl))
                    · refine obS_val (want_none rfl) (by kernel_rfl) (fun D w' hlo hw => ?_)
                      have e49 : Fr.tmps[49]? = some (.slice (some ⟨g, off, none⟩) nm c7) := hEA.dst 1 _ 49 (by decide) rfl rfl; have e50 : Fr.tmps[50]? = some (.int .i64 (k : Int)) := hEA.dst 2 _ 50 (by decide) rfl rfl; simp [execOp, e49, e50, hi, hge, go_sem]
                    · refine obS_val (want_none rfl) (by kernel_rfl) (fun D w' hlo hw => ?_)
                      have hc0 := (hw.1.cell (p := ⟨g, off + k * 2, none⟩) hbN).trans hc0
                      have hc1 := (hw.1.cell (p := ⟨g, off + k * 2 + 1, none⟩) hbN).trans hc1
                      have e51 : Fr.tmps[51]? = some (.pointer (some ⟨g, off + k * 2, none⟩)) := hEA.dst 3 _ 51 (by decide) rfl rfl; simp [execOp, e51, hc0, hc1, go_sem]
                    · refine obS_val (want_none rfl) (by kernel_rfl) (fun D w' hlo hw => ?_)
                      have hc0 := (hw.1.cell (p := ⟨g5, 0, none⟩) hb5).trans (b5.c 0 _ rfl)
                      have hc1 := (hw.1.cell (p := ⟨g5, 1, none⟩) hb5).trans (b5.c 1 _ rfl)
                      have hc2 := (hw.1.cell (p := ⟨g5, 2, none⟩) hb5).trans (b5.c 2 _ rfl)
                      have hc3 := (hw.1.cell (p := ⟨g5, 3, none⟩) hb5).trans (b5.c 3 _ rfl)
                      have e5 : Fr.tmps[5]? = some (.pointer (some ⟨g5, 0, none⟩)) := at_outV hEA (d := 5) (by kernel_rfl); simp [execOp, e5, hc0, hc1, hc2, hc3, go_sem]
                    · refine obS_val (want_none rfl) (by kernel_rfl) (fun D w' hlo hw => ?_)
                      have e52 : Fr.tmps[52]? = some (.agg #[.int .i64 x, .int .i64 y]) := hEA.dst 4 _ 52 (by decide) rfl rfl; have e53 : Fr.tmps[53]? = some (.agg #[.int .i64 1, .int .i64 0, .int .i64 1, .slice A N ca]) := hEA.dst 5 _ 53 (by decide) rfl rfl; simp [execOp, e52, e53, go_sem]
                    · refine obS_make (q := 0) (want_none rfl) (by kernel_rfl) (fun D w' hlo hD hw => ?_)
                      have e54 : Fr.tmps[54]? = some (.agg #[.int .i64 x, .int .i64 y, .int .i64 0, .int .i64 0, .int .i64 0, .slice none 0 0, .int .i64 1, .int .i64 0, .int .i64 1, .slice A N ca, .bool false]) := hEA.dst 6 _ 54 (by decide) rfl rfl; 
                      exact ⟨.slice (some ⟨w'.heap.size, 0, none⟩) 1 1, w'.alloc (.cells #[.int .i64 x, .int .i64 y, .int .i64 0, .int .i64 0, .int .i64 0, .slice none 0 0, .int .i64 1, .int .i64 0, .int .i64 1, .slice A N ca, .bool false] 36), by simp [execOp, e54, go_sem], fun r' hr hv => ⟨hv, hw.1.alloc hw.2.1 _, Nat.le_trans hw.2.1 (by simp), (fun _ _ => by rw [hv]; exact own_fhs (laid_own w' [oldH (A, N, ca) (x, y)] (by simp) _ rfl _ (Nat.le_refl _))), (fun h => (hw.2.2.2.1 (by simpa using h)).alloc _), (fun h => by rw [hr 1 (by simpa using h)]; exact (hw.2.2.2.2 (by simpa using h)).alloc _)⟩⟩
                    · refine obS_make (q := 1) (want_none rfl) (by kernel_rfl) (fun D w' hlo hD hw => ?_)
                      have e48 : Fr.tmps[48]? = some (s) := hEA.dst 0 _ 48 (by decide) rfl rfl; have e55 : Fr.tmps[55]? = some ((r 0)) := hEA.dst 7 _ 55 (by decide) rfl rfl; 
                      have h0 := hlo 0 (by decide)
                      exact run_append_fhs_then w' (.tmp 48) (.tmp 55) rfl N0 s _ _ (eval_dstT hEA (j := 0) (by decide) rfl rfl) (hw.2.2.2.1 hD) w'.heap.size _ [oldH (A, N, ca) (x, y)] (eval_dstT hEA (j := 7) (by decide) rfl rfl) (hw.2.2.1 h0 hD) (by simp only [List.length_cons, List.length_nil]; omega) hw.2.1 (fun v' w3 hown hg r' hr hv => ⟨hv, hw.1.grown hg hw.2.1 (fun k hk => ((hw.2.2.2.1 hD).lt k hk).1), Nat.le_trans hw.2.1 hg.size, (fun _ h => by simp at h), (fun h => by simp at h), fun _ => by rw [hv]; exact hown⟩)
                  · intro r w' hw
                    simp only [laid, Act.put, List.setIfInBounds_toArray, List.set_cons_succ, List.set_cons_zero, List.getD_cons_succ, List.getD_cons_zero, Nat.zero_add, Nat.reduceAdd]
                    obtain ⟨w2, hw2⟩ : ∃ w2, w' = w2 := ⟨_, rfl⟩
                    rw [hw2] at hw
                    try rw [hw2]
                    clear hw2
                    have HO2 := Lib.hid (hw.2.2.2.2 (by decide))
                    have BN2 := hw.1
                    have hNw2 := hw.2.1
                    obtain ⟨s2, hs2⟩ : ∃ v, r 1 = v := ⟨_, rfl⟩
                    rw [hs2] at HO2
                    try rw [hs2]
                    clear hw hs2 BN hown0 hc0 hc1
                    go_wp2
                    go_roundw
                    case rel => exact ⟨k + 1, _, _, rfl, rfl, by omega, by go_num, by rw [HS2.out]; exact HO2.out, BN2, hNw2⟩
                    case measure => simp [intOf]; omega
                · have hd : decide (k < nm) = false := decide_eq_false hlt
                  obtain rfl : nm = k := by omega
                  have hkk : ms.take nm = ms := List.take_of_length_le (by rw [HNM.out]; exact Nat.le_refl _)
                  rw [hkk] at hown
                  obtain ⟨Al, ls, cs, rfl⟩ : ∃ ao n' cap, s = Value.slice ao n' cap := by
                    rcases hown.2 with ⟨hv, _⟩ | ⟨g, cap, cur, hv, _⟩
                    · exact ⟨_, _, _, hv⟩
                    · exact ⟨_, _, _, hv⟩
                  have hbE : Below W3.heap.size W3 wr := by rw [HN0.out]; exact BN
                  have hhl : (ms.map (oldH (A, N, ca))).length = nm := by rw [List.length_map, HNM.out]
                  have HL := Lib.hid (own_fhs (show wr.ownsRow N0 36 11 _ (ms.map (oldH (A, N, ca))).length ((ms.map (oldH (A, N, ca))).flatMap fhC) by rw [hhl]; exact hown))
                  obtain ⟨_, _, e, hlcs, hccs⟩ := fhs_len HL.out nm hhl
                  simp only [Value.slice.injEq] at e
                  obtain ⟨rfl, e2, rfl⟩ := e
                  obtain rfl : nm = ls := e2.symm
                  clear e2
                  have HE0 := Lib.hid (fun (n : Nat) (w : World) (hx : Spots n w (spo (some t)) [.slice A N ca]) => each_old (h := (A, N, ca)) hx ms)
                  replace HX := Lib.hid (keeps_spots _ _ _ _ _ _ HX.out hbE hbE.size)
                  replace HM := Lib.hid (keeps_mems _ _ _ _ _ _ HM.out hbE hbE.size)
                  replace b0 := b0.next hbE
                  replace B := B.trans (hbE.mono B.size)
                  obtain ⟨f1, f2, f3, u, f4, f5, f6, f7, f8, f9, f10, f11⟩ := HFF.out
                  obtain ⟨hs, hhs⟩ : ∃ hs, ms.map (oldH (A, N, ca)) = hs := ⟨_, rfl⟩
                  obtain ⟨fs, hfs⟩ : ∃ fs, ms.map (oldF t) = fs := ⟨_, rfl⟩
                  rw [hhs] at HE0 HL hhl
                  rw [hfs] at HE0 f1 f2 f3 f4 f5 f10 f11
                  have F1 := Lib.hid f1
                  have F2 := Lib.hid f2
                  have F3 := Lib.hid f3
                  have F4 := Lib.hid f4
                  have F5 := Lib.hid f5
                  have F6 := Lib.hid f6
                  have F8 := Lib.hid f8
                  have F9 := Lib.hid f9
                  have F10 := Lib.hid f10
                  have HHL := Lib.hid hhl
                  obtain ⟨nf, hnf⟩ : ∃ n, (freshO (fs ++ [newF (m1, m2)]) (lvO (some u))).length = n := ⟨_, rfl⟩
                  have F11 : nf ≤ 2 := by rw [← hnf]; exact f11
                  have HNF := Lib.hid hnf
                  have hul : (spo (some u)).length ≤ 400000 := by have := (okT_parts f6).1; omega
                  obtain ⟨n2, hn2⟩ : ∃ n2, N + 2 = n2 := ⟨_, rfl⟩
                  have hwr : IntKind.i64.wrap ((N : Int) + 2) = (n2 : Int) := by rw [IntKind.wrap_i64]; omega
                  have hwr2 : wrap64 ((N : Int) + 2) = (n2 : Int) := by unfold wrap64; omega
                  rw [hn2] at F9
                  clear f1 f2 f3 f4 f5 f6 f7 f8 f9 f10 f11 hhs hfs hown hkk hhl hbE BN hlt hnf HFF hk HP HST hn2 hNw
                  go_wp2_with fail
                  refine (pShape_any _ hs fs wr HL.out (HE0.out _ _ HX.out) F1.out).mono ?_
                  rintro e V1 ⟨vs, rfl, hs9, hb⟩
                  replace HX := Lib.hid (keeps_spots _ _ _ _ _ _ HX.out hb hb.size)
                  replace HM := Lib.hid (keeps_mems _ _ _ _ _ _ HM.out hb hb.size)
                  replace HL := Lib.hid (keeps_fhs _ _ _ _ _ _ HL.out hb hb.size)
                  replace b0 := b0.next hb
                  replace B := B.trans (hb.mono B.size)
                  clear hb
                  rw [F2.out] at hs9
                  have HSA := Lib.hid hs9
                  clear hs9
                  go_wp2_with fail
                  refine wp_region_any_order (fun r i => ([(r 0), .slice Al nm cs, (r 1), .agg #[.int .i64 m1, .int .i64 m2], .agg #[.int .i64 m1, .int .i64 m2, .int .i64 0, .int .i64 0, .int .i64 0, .slice none 0 0, .int .i64 0, .int .i64 0, .int .i64 0, .slice none 0 0, .bool false], (r 2), (r 3), (r 4), (r 4)] : List Value).getD i undef) [0, 2, 5, 6, 7] [[], [], [0], [], [], [], [1, 2], [3], [4]] (fun r D w' => Snoc V1.heap.size V1 36 11 hs.length (hs.flatMap fhC) ([newHd m1 m2].flatMap fhC) (fun w v => Spots w.heap.size w (spo (some u)) [v]) r D w') (by kernel_rfl) (by kernel_rfl) (fun r => Snoc.start (wr := V1) (w := { V1 with drawn := V1.drawn + 1 }) ⟨rfl, rfl, rfl, Nat.le_refl _, fun _ _ => rfl⟩ r) ?_ ?_
                  · refine ObsS_of_ends (by kernel_rfl) ?_
                    intro r Fr hEA
                    refine ⟨?_, ?_, ?_, ?_, ?_, ?_, ?_, ?_, ?_, trivial⟩
                    · refine obS_make (q := 0) (want_none rfl) (by kernel_rfl) (fun D w' hlo hD hw => ?_)
                      exact ⟨.slice (some ⟨w'.heap.size, 0, none⟩) 0 0, w'.alloc (.cells #[] 36), by simp [execOp, go_sem], fun r' hr hv => ⟨hv, Snoc.q0 36 hw hD hr hv⟩⟩
                    · exact obS_move _ rfl (want_none rfl) (by kernel_rfl) (eval_out hEA (d := 6) (by kernel_rfl))
                    · refine obS_make (q := 1) (want_none rfl) (by kernel_rfl) (fun D w' hlo hD hw => ?_)
                      have e59 : Fr.tmps[59]? = some ((r 0)) := hEA.dst 0 _ 59 rfl rfl; have e60 : Fr.tmps[60]? = some (.slice Al nm cs) := hEA.dst 1 _ 60 rfl rfl; 
                      have h0 := hlo 0 (by decide)
                      exact run_append_fhs_then w' (.tmp 59) (.tmp 60) rfl V1.heap.size (r 0) 0 [] (eval_dst hEA (j := 0) rfl rfl) (hw.o0 h0 hD) w'.heap.size _ hs (eval_dst hEA (j := 1) rfl rfl) (keeps_fhs _ _ _ _ _ _ HL.out hw.B hw.sz) (by have := HHL.out; omega) hw.sz (fun v' w2 hown hg r' hr hv => ⟨hv, hw.q1 h0 hD hr hv (by have h9 := hown; rw [Nat.zero_add, List.nil_append] at h9; exact h9) hg⟩)
                    · refine obS_val (want_none rfl) (by kernel_rfl) (fun D w' hlo hw => ?_)
                      have hc0 := (hw.B.cell (p := ⟨w.heap.size, 0, none⟩) b0.lt).trans (b0.c 0 _ rfl)
                      have hc1 := (hw.B.cell (p := ⟨w.heap.size, 1, none⟩) b0.lt).trans (b0.c 1 _ rfl)
                      have e3 : Fr.tmps[3]? = some (.pointer (some ⟨w.heap.size, 0, none⟩)) := at_out hEA (d := 3) (by kernel_rfl); simp [execOp, e3, hc0, hc1, go_sem]
                    · refine obS_val (want_none rfl) (by kernel_rfl) (fun D w' hlo hw => ?_)
                      have e62 : Fr.tmps[62]? = some (.agg #[.int .i64 m1, .int .i64 m2]) := hEA.dst 3 _ 62 rfl rfl; simp [execOp, e62, go_sem]
                    · refine obS_make (q := 2) (want_none rfl) (by kernel_rfl) (fun D w' hlo hD hw => ?_)
                      have e63 : Fr.tmps[63]? = some (.agg #[.int .i64 m1, .int .i64 m2, .int .i64 0, .int .i64 0, .int .i64 0, .slice none 0 0, .int .i64 0, .int .i64 0, .int .i64 0, .slice none 0 0, .bool false]) := hEA.dst 4 _ 63 rfl rfl; 
                      exact ⟨.slice (some ⟨w'.heap.size, 0, none⟩) 1 1, w'.alloc (.cells #[.int .i64 m1, .int .i64 m2, .int .i64 0, .int .i64 0, .int .i64 0, .slice none 0 0, .int .i64 0, .int .i64 0, .int .i64 0, .slice none 0 0, .bool false] 36), by simp [execOp, e63, go_sem], fun r' hr hv => ⟨hv, Snoc.q2 36 _ hw rfl rfl hD hr hv⟩⟩
                    · refine obS_make (q := 3) (want_none rfl) (by kernel_rfl) (fun D w' hlo hD hw => ?_)
                      have e61 : Fr.tmps[61]? = some ((r 1)) := hEA.dst 2 _ 61 rfl rfl; have e64 : Fr.tmps[64]? = some ((r 2)) := hEA.dst 5 _ 64 rfl rfl; 
                      have h1 := hlo 1 (by decide)
                      have h2 := hlo 2 (by decide)
                      exact run_append_fhs_then w' (.tmp 61) (.tmp 64) rfl V1.heap.size (r 1) _ _ (eval_dst hEA (j := 2) rfl rfl) (hw.o1 h1 hD) w'.heap.size _ [newHd m1 m2] (eval_dst hEA (j := 5) rfl rfl) (own_fhs (xs := [newHd m1 m2]) (hw.o2 h2 hD)) (by have := HHL.out; simp only [List.length_cons, List.length_nil]; omega) hw.sz (fun v' w2 hown hg r' hr hv => ⟨hv, hw.q3 h1 h2 hD hr hv hown hg⟩)
                    · refine obS_call (q := 4) (f := 8) (args := #[(r 3)]) (want_none rfl) (by kernel_rfl) (fun w' => by have e65 : Fr.tmps[65]? = some ((r 3)) := hEA.dst 6 _ 65 rfl rfl; simp [e65, go_sem]) ?_
                      intro D w' hlo hD hw
                      have h3 := hlo 3 (by decide)
                      have hfh := own_fhs (xs := hs ++ [newHd m1 m2]) (by rw [List.length_append, List.flatMap_append]; exact hw.o3 h3)
                      have hxx := keeps_spots _ _ _ _ _ _ HX.out hw.B hw.sz
                      have hee := (HE0.out _ _ hxx).append (one_new w'.heap.size w' m1 m2)
                      refine (pShape_any (r 3) (hs ++ [newHd m1 m2]) (fs ++ [newF (m1, m2)]) w' hfh hee F4.out).mono ?_
                      rintro e w2 ⟨v', rfl, hs9, hb⟩
                      exact ⟨_, rfl, fun r' hr hv => ⟨hv, hw.q4 h3 hr hv hb (by rw [F5.out] at hs9; exact hs9)⟩⟩
                    · refine obS_val (want_none rfl) (by kernel_rfl) (fun D w' hlo hw => ?_)
                      have e66 : Fr.tmps[66]? = some ((r 4)) := hEA.dst 7 _ 66 rfl rfl; simp [execOp, e66, go_sem]
                  · intro r w' hw
                    simp only [laid, Act.put, List.setIfInBounds_toArray, List.set_cons_succ, List.set_cons_zero, List.getD_cons_succ, List.getD_cons_zero, Nat.zero_add, Nat.reduceAdd]
                    obtain ⟨w2, hw2⟩ : ∃ w2, w' = w2 := ⟨_, rfl⟩
                    rw [hw2] at hw
                    try rw [hw2]
                    clear hw2
                    have hs9 := hw.s4 (by decide)
                    have hb := hw.B
                    obtain ⟨vt, hva⟩ : ∃ v, r 4 = v := ⟨_, rfl⟩
                    rw [hva] at hs9
                    try rw [hva]
                    have HT : Hid (Spots w2.heap.size w2 (spo (some u)) [vt]) := Lib.hid hs9
                    clear hw hva hs9
                    obtain ⟨V2, hV⟩ : ∃ v, w2 = v := ⟨_, rfl⟩
                    rw [hV] at hb HT
                    try rw [hV]
                    clear hV
                    replace HX := Lib.hid (keeps_spots _ _ _ _ _ _ HX.out hb hb.size)
                    replace HM := Lib.hid (keeps_mems _ _ _ _ _ _ HM.out hb hb.size)
                    replace HL := Lib.hid (keeps_fhs _ _ _ _ _ _ HL.out hb hb.size)
                    replace HSA := Lib.hid (keeps_spots _ _ _ _ _ _ HSA.out hb hb.size)
                    replace b0 := b0.next hb
                    replace B := B.trans (hb.mono B.size)
                    clear hb
                    go_wp2_with fail
                    refine wp_region_any_order (fun r i => ([(r 0), .slice Al nm cs, (r 1), .agg #[.int .i64 m1, .int .i64 m2], .agg #[.int .i64 m1, .int .i64 m2, .int .i64 0, .int .i64 0, .int .i64 0, .slice none 0 0, .int .i64 0, .int .i64 0, .int .i64 0, .slice none 0 0, .bool false], (r 2), (r 3), vt, (r 4), (r 4)] : List Value).getD i undef) [0, 2, 5, 6, 8] [[], [], [0], [], [], [], [1, 2], [], [3], [4]] (fun r D w' => Snoc V2.heap.size V2 36 11 hs.length (hs.flatMap fhC) ([newHd m1 m2].flatMap fhC) (fun w v => Mems w.heap.size w (freshO (fs ++ [newF (m1, m2)]) (lvO (some u))) [v]) r D w') (by kernel_rfl) (by kernel_rfl) (fun r => Snoc.start (wr := V2) (w := { V2 with drawn := V2.drawn + 1 }) ⟨rfl, rfl, rfl, Nat.le_refl _, fun _ _ => rfl⟩ r) ?_ ?_
                    · refine ObsS_of_ends (by kernel_rfl) ?_
                      intro r Fr hEA
                      refine ⟨?_, ?_, ?_, ?_, ?_, ?_, ?_, ?_, ?_, ?_, trivial⟩
                      · refine obS_make (q := 0) (want_none rfl) (by kernel_rfl) (fun D w' hlo hD hw => ?_)
                        exact ⟨.slice (some ⟨w'.heap.size, 0, none⟩) 0 0, w'.alloc (.cells #[] 36), by simp [execOp, go_sem], fun r' hr hv => ⟨hv, Snoc.q0 36 hw hD hr hv⟩⟩
                      · exact obS_move _ rfl (want_none rfl) (by kernel_rfl) (eval_out hEA (d := 6) (by kernel_rfl))
                      · refine obS_make (q := 1) (want_none rfl) (by kernel_rfl) (fun D w' hlo hD hw => ?_)
                        have e67 : Fr.tmps[67]? = some ((r 0)) := hEA.dst 0 _ 67 rfl rfl; have e68 : Fr.tmps[68]? = some (.slice Al nm cs) := hEA.dst 1 _ 68 rfl rfl; 
                        have h0 := hlo 0 (by decide)
                        exact run_append_fhs_then w' (.tmp 67) (.tmp 68) rfl V2.heap.size (r 0) 0 [] (eval_dst hEA (j := 0) rfl rfl) (hw.o0 h0 hD) w'.heap.size _ hs (eval_dst hEA (j := 1) rfl rfl) (keeps_fhs _ _ _ _ _ _ HL.out hw.B hw.sz) (by have := HHL.out; omega) hw.sz (fun v' w2 hown hg r' hr hv => ⟨hv, hw.q1 h0 hD hr hv (by have h9 := hown; rw [Nat.zero_add, List.nil_append] at h9; exact h9) hg⟩)
                      · refine obS_val (want_none rfl) (by kernel_rfl) (fun D w' hlo hw => ?_)
                        have hc0 := (hw.B.cell (p := ⟨w.heap.size, 0, none⟩) b0.lt).trans (b0.c 0 _ rfl)
                        have hc1 := (hw.B.cell (p := ⟨w.heap.size, 1, none⟩) b0.lt).trans (b0.c 1 _ rfl)
                        have e3 : Fr.tmps[3]? = some (.pointer (some ⟨w.heap.size, 0, none⟩)) := at_out hEA (d := 3) (by kernel_rfl); simp [execOp, e3, hc0, hc1, go_sem]
                      · refine obS_val (want_none rfl) (by kernel_rfl) (fun D w' hlo hw => ?_)
                        have e70 : Fr.tmps[70]? = some (.agg #[.int .i64 m1, .int .i64 m2]) := hEA.dst 3 _ 70 rfl rfl; simp [execOp, e70, go_sem]
                      · refine obS_make (q := 2) (want_none rfl) (by kernel_rfl) (fun D w' hlo hD hw => ?_)
                        have e71 : Fr.tmps[71]? = some (.agg #[.int .i64 m1, .int .i64 m2, .int .i64 0, .int .i64 0, .int .i64 0, .slice none 0 0, .int .i64 0, .int .i64 0, .int .i64 0, .slice none 0 0, .bool false]) := hEA.dst 4 _ 71 rfl rfl; 
                        exact ⟨.slice (some ⟨w'.heap.size, 0, none⟩) 1 1, w'.alloc (.cells #[.int .i64 m1, .int .i64 m2, .int .i64 0, .int .i64 0, .int .i64 0, .slice none 0 0, .int .i64 0, .int .i64 0, .int .i64 0, .slice none 0 0, .bool false] 36), by simp [execOp, e71, go_sem], fun r' hr hv => ⟨hv, Snoc.q2 36 _ hw rfl rfl hD hr hv⟩⟩
                      · refine obS_make (q := 3) (want_none rfl) (by kernel_rfl) (fun D w' hlo hD hw => ?_)
                        have e69 : Fr.tmps[69]? = some ((r 1)) := hEA.dst 2 _ 69 rfl rfl; have e72 : Fr.tmps[72]? = some ((r 2)) := hEA.dst 5 _ 72 rfl rfl; 
                        have h1 := hlo 1 (by decide)
                        have h2 := hlo 2 (by decide)
                        exact run_append_fhs_then w' (.tmp 69) (.tmp 72) rfl V2.heap.size (r 1) _ _ (eval_dst hEA (j := 2) rfl rfl) (hw.o1 h1 hD) w'.heap.size _ [newHd m1 m2] (eval_dst hEA (j := 5) rfl rfl) (own_fhs (xs := [newHd m1 m2]) (hw.o2 h2 hD)) (by have := HHL.out; simp only [List.length_cons, List.length_nil]; omega) hw.sz (fun v' w2 hown hg r' hr hv => ⟨hv, hw.q3 h1 h2 hD hr hv hown hg⟩)
                      · exact obS_move _ rfl (want_none rfl) (by kernel_rfl) (eval_out hEA (d := 10) (by kernel_rfl))
                      · refine obS_call (q := 4) (f := 12) (args := #[(r 3), vt]) (want_none rfl) (by kernel_rfl) (fun w' => by have e73 : Fr.tmps[73]? = some ((r 3)) := hEA.dst 6 _ 73 rfl rfl; have e74 : Fr.tmps[74]? = some (vt) := hEA.dst 7 _ 74 rfl rfl; simp [e73, e74, go_sem]) ?_
                        intro D w' hlo hD hw
                        have h3 := hlo 3 (by decide)
                        have hfh := own_fhs (xs := hs ++ [newHd m1 m2]) (by rw [List.length_append, List.flatMap_append]; exact hw.o3 h3)
                        have hxx := keeps_spots _ _ _ _ _ _ HX.out hw.B hw.sz
                        have hee := (HE0.out _ _ hxx).append (one_new w'.heap.size w' m1 m2)
                        refine (pFresh_any (r 3) vt (hs ++ [newHd m1 m2]) (fs ++ [newF (m1, m2)]) (some u) w' hfh hee F4.out (keeps_spots _ _ _ _ _ _ HT.out hw.B hw.sz) F6.out).mono ?_
                        rintro e w2 ⟨v', rfl, hs9, hb⟩
                        exact ⟨_, rfl, fun r' hr hv => ⟨hv, hw.q4 h3 hr hv hb hs9⟩⟩
                      · refine obS_val (want_none rfl) (by kernel_rfl) (fun D w' hlo hw => ?_)
                        have e75 : Fr.tmps[75]? = some ((r 4)) := hEA.dst 8 _ 75 rfl rfl; simp [execOp, e75, go_sem]
                    · intro r w' hw
                      simp only [laid, Act.put, List.setIfInBounds_toArray, List.set_cons_succ, List.set_cons_zero, List.getD_cons_succ, List.getD_cons_zero, Nat.zero_add, Nat.reduceAdd]
                      obtain ⟨w2, hw2⟩ : ∃ w2, w' = w2 := ⟨_, rfl⟩
                      rw [hw2] at hw
                      try rw [hw2]
                      clear hw2
                      have hs9 := hw.s4 (by decide)
                      have hb := hw.B
                      obtain ⟨vf, hva⟩ : ∃ v, r 4 = v := ⟨_, rfl⟩
                      rw [hva] at hs9
                      try rw [hva]
                      have HF : Hid (Mems w2.heap.size w2 (freshO (fs ++ [newF (m1, m2)]) (lvO (some u))) [vf]) := Lib.hid hs9
                      clear hw hva hs9
                      obtain ⟨V3, hV⟩ : ∃ v, w2 = v := ⟨_, rfl⟩
                      rw [hV] at hb HF
                      try rw [hV]
                      clear hV
                      replace HX := Lib.hid (keeps_spots _ _ _ _ _ _ HX.out hb hb.size)
                      replace HM := Lib.hid (keeps_mems _ _ _ _ _ _ HM.out hb hb.size)
                      replace HL := Lib.hid (keeps_fhs _ _ _ _ _ _ HL.out hb hb.size)
                      replace HSA := Lib.hid (keeps_spots _ _ _ _ _ _ HSA.out hb hb.size)
                      replace HT := Lib.hid (keeps_spots _ _ _ _ _ _ HT.out hb hb.size)
                      replace b0 := b0.next hb
                      replace B := B.trans (hb.mono B.size)
                      clear hb
                      go_wp2_with fail
                      refine (awake15_any V3).mono ?_
                      rintro e V4 ⟨rfl, hb⟩
                      replace HX := Lib.hid (keeps_spots _ _ _ _ _ _ HX.out hb hb.size)
                      replace HM := Lib.hid (keeps_mems _ _ _ _ _ _ HM.out hb hb.size)
                      replace HL := Lib.hid (keeps_fhs _ _ _ _ _ _ HL.out hb hb.size)
                      replace HSA := Lib.hid (keeps_spots _ _ _ _ _ _ HSA.out hb hb.size)
                      replace HT := Lib.hid (keeps_spots _ _ _ _ _ _ HT.out hb hb.size)
                      replace HF := Lib.hid (keeps_mems _ _ _ _ _ _ HF.out hb hb.size)
                      replace b0 := b0.next hb
                      replace B := B.trans (hb.mono B.size)
                      clear hb
                      go_wp2_with fail
                      refine ((show Calls _ _ _ _ (fun e W' => e = .returned (.bool true) ∧ Below V4.heap.size V4 W') from by have := sameS_any vs _ (spo (some t)) (spo (some t)) V4 HSA.out HX.out (by show (flat t).length ≤ _; rw [HN.out]; omega); rwa [show decide ((spo (some t)) = (spo (some t))) = true from decide_eq_true rfl] at this)).mono ?_
                      rintro e V5 ⟨rfl, hb⟩
                      replace HX := Lib.hid (keeps_spots _ _ _ _ _ _ HX.out hb hb.size)
                      replace HM := Lib.hid (keeps_mems _ _ _ _ _ _ HM.out hb hb.size)
                      replace HL := Lib.hid (keeps_fhs _ _ _ _ _ _ HL.out hb hb.size)
                      replace HSA := Lib.hid (keeps_spots _ _ _ _ _ _ HSA.out hb hb.size)
                      replace HT := Lib.hid (keeps_spots _ _ _ _ _ _ HT.out hb hb.size)
                      replace HF := Lib.hid (keeps_mems _ _ _ _ _ _ HF.out hb hb.size)
                      replace b0 := b0.next hb
                      replace B := B.trans (hb.mono B.size)
                      clear hb
                      go_wp2_with fail
                      refine (pFresh_any _ vs hs fs (some t) V5 HL.out (HE0.out _ _ HX.out) F1.out HSA.out HRT.out).mono ?_
                      rintro e V6 ⟨v1, rfl, h1, hb⟩
                      replace HX := Lib.hid (keeps_spots _ _ _ _ _ _ HX.out hb hb.size)
                      replace HM := Lib.hid (keeps_mems _ _ _ _ _ _ HM.out hb hb.size)
                      replace HL := Lib.hid (keeps_fhs _ _ _ _ _ _ HL.out hb hb.size)
                      replace HSA := Lib.hid (keeps_spots _ _ _ _ _ _ HSA.out hb hb.size)
                      replace HT := Lib.hid (keeps_spots _ _ _ _ _ _ HT.out hb hb.size)
                      replace HF := Lib.hid (keeps_mems _ _ _ _ _ _ HF.out hb hb.size)
                      replace b0 := b0.next hb
                      replace B := B.trans (hb.mono B.size)
                      clear hb
                      rw [HMS.out] at h1
                      obtain ⟨A1, c1, rfl, -, -⟩ := mems_len h1 1 F3.out
                      clear h1
                      go_wp2_with fail
                      refine (refOnly_any vt _ (some u) ms V6 HT.out HM.out hul).mono ?_
                      rintro e V7 ⟨v2, rfl, h2, hb⟩
                      replace HX := Lib.hid (keeps_spots _ _ _ _ _ _ HX.out hb hb.size)
                      replace HM := Lib.hid (keeps_mems _ _ _ _ _ _ HM.out hb hb.size)
                      replace HL := Lib.hid (keeps_fhs _ _ _ _ _ _ HL.out hb hb.size)
                      replace HSA := Lib.hid (keeps_spots _ _ _ _ _ _ HSA.out hb hb.size)
                      replace HT := Lib.hid (keeps_spots _ _ _ _ _ _ HT.out hb hb.size)
                      replace HF := Lib.hid (keeps_mems _ _ _ _ _ _ HF.out hb hb.size)
                      replace b0 := b0.next hb
                      replace B := B.trans (hb.mono B.size)
                      clear hb
                      rw [F8.out] at h2
                      have H2 := Lib.hid h2
                      clear h2
                      go_wp2_with fail
                      refine ((show Calls _ _ _ _ (fun e W' => e = .returned (.bool true) ∧ Below V7.heap.size V7 W') from by have := sameS_any v2 _ (spo (some t)) (spo (some t)) V7 H2.out HX.out (by show (flat t).length ≤ _; rw [HN.out]; omega); rwa [show decide ((spo (some t)) = (spo (some t))) = true from decide_eq_true rfl] at this)).mono ?_
                      rintro e V8 ⟨rfl, hb⟩
                      replace HX := Lib.hid (keeps_spots _ _ _ _ _ _ HX.out hb hb.size)
                      replace HM := Lib.hid (keeps_mems _ _ _ _ _ _ HM.out hb hb.size)
                      replace HL := Lib.hid (keeps_fhs _ _ _ _ _ _ HL.out hb hb.size)
                      replace HSA := Lib.hid (keeps_spots _ _ _ _ _ _ HSA.out hb hb.size)
                      replace HT := Lib.hid (keeps_spots _ _ _ _ _ _ HT.out hb hb.size)
                      replace HF := Lib.hid (keeps_mems _ _ _ _ _ _ HF.out hb hb.size)
                      replace H2 := Lib.hid (keeps_spots _ _ _ _ _ _ H2.out hb hb.size)
                      replace b0 := b0.next hb
                      replace B := B.trans (hb.mono B.size)
                      clear hb
                      obtain ⟨Au, cu, rfl, hlu, hcu⟩ := spots_len HT.out n2 F9.out
                      have q00 := b0.c 0 _ rfl
                      have q01 := b0.c 1 _ rfl
                      go_wp2_with fail
                      refine ((show Calls _ _ _ _ (fun e W' => e = .returned (.bool true) ∧ Below V8.heap.size V8 W') from by have := refHas_any vf _ m1 m2 V8 HF.out; rwa [show decide ((m1, m2) ∈ freshO (fs ++ [newF (m1, m2)]) (lvO (some u))) = true from decide_eq_true F10.out] at this)).mono ?_
                      rintro e V9 ⟨rfl, hb⟩
                      replace HX := Lib.hid (keeps_spots _ _ _ _ _ _ HX.out hb hb.size)
                      replace HM := Lib.hid (keeps_mems _ _ _ _ _ _ HM.out hb hb.size)
                      replace HL := Lib.hid (keeps_fhs _ _ _ _ _ _ HL.out hb hb.size)
                      replace HSA := Lib.hid (keeps_spots _ _ _ _ _ _ HSA.out hb hb.size)
                      replace HT := Lib.hid (keeps_spots _ _ _ _ _ _ HT.out hb hb.size)
                      replace HF := Lib.hid (keeps_mems _ _ _ _ _ _ HF.out hb hb.size)
                      replace H2 := Lib.hid (keeps_spots _ _ _ _ _ _ H2.out hb hb.size)
                      replace b0 := b0.next hb
                      replace B := B.trans (hb.mono B.size)
                      clear hb
                      obtain ⟨Af, cf, rfl, hlf, hcf⟩ := mems_len HF.out nf HNF.out
                      have hnf2 : (nf : Int) ≤ 2 := by omega
                      go_wp2
                      go_ret
                      exact ⟨rfl, B⟩

end Go.Proofs.Ytkmlnglmecjmeaa
