import Derived.Test.YtlmkgkfildgkgaaLabA
import Derived.Test.YtlmkgkfildgkgaaPhaseA
import Derived.Test.YtlmkgkfildgkgaaBoxM
/- The document's Of and Way of layer 10. Condition: the slice reads as a tree's spots, or nothing's, of at most a million, at most 60 high. -/
namespace Go.Proofs.Ytlmkgkfildgkgaa
open Go Go.RowKit
set_option linter.unusedVariables false

theorem Turn.cell {g n : Nat} {a b : World} (h : Turn g n a b) {p : Addr} (hp : p.block < n) (hg : p.block ≠ g) : b.cell? p = a.cell? p := World.cell?_of_block (h.block p.block hp hg)
theorem pow_le59 {k : Nat} (h : k ≤ 59) : 2 ^ k ≤ 576460752303423488 := Nat.le_trans (Nat.pow_le_pow_right (by omega) h) (by decide)
theorem wrap_two {z i : Nat} (h : i < z) (hz : z ≤ 576460752303423488) : wrap64 ((z : Int) + (i : Int)) = ((z + i : Nat) : Int) := by unfold wrap64; omega
theorem wrap_sum (k : Nat) {i : Nat} (h : i < 2 ^ k) (hz : 2 ^ k ≤ 576460752303423488) : wrap64 (2 ^ k + (i : Int)) = ((2 ^ k + i : Nat) : Int) := by
  have e : (2 : Int) ^ k = ((2 ^ k : Nat) : Int) := by simp
  rw [e]
  exact wrap_two h hz
theorem ofO_some {ot : Option Tr} {m : Int × Int} {p : List Bool} (h : offO ot m = some p) : ofO ot m = (labOf p, true) := by simp [ofO, h]
theorem ofO_none {ot : Option Tr} {m : Int × Int} (h : offO ot m = none) : ofO ot m = ((0, 0), false) := by simp [ofO, h]

set_option maxRecDepth 100000 in
set_option maxHeartbeats 8000000 in
theorem refOf_nil (v : Value) (m1 m2 : Int) (w : World) (h : Spots w.heap.size w [] [v]) :
    Calls Try.prog 14 #[v, vM m1 m2] w fun e W' => e = .returned (.tuple #[vM 0 0, .bool false]) ∧ Below w.heap.size w W' := by
  have HX := Lib.hid h
  obtain ⟨A, cap, rfl, hlc, hcm, _⟩ := spots_at h
  clear h
  go_enter Try.func14, Try.ntmps14
  go_wp2_with fail
  obtain ⟨W0, hW0, b0, b1, B⟩ := new2 w [.int .i64 m1, .int .i64 m2] [.int .i64 0, .int .i64 0] 26 24
  rw [hW0]
  clear hW0
  refine (refHalves_few [] _ W0 (keeps_spots _ _ _ _ _ _ HX.out B B.size) (by decide)).mono ?_
  rintro e W1 ⟨rfl, rfl⟩
  have q0 := b0.c 0 _ rfl
  have q1 := b0.c 1 _ rfl
  clear hlc
  go_wp2_with fail
  refine wp_region_plan (fun i => ([.agg #[.int .i64 0, .int .i64 0], .slice A 0 cap, .int .i64 0, .bool false, .bool false, undef, undef, undef, undef, .bool false, .bool false, undef, undef, undef, undef, undef, undef, .bool false, undef, .bool false] : List Value).getD i undef) [18] [0, 0, 0, 0, 0, 0, 0, 0, 0, 0, 0, 0, 0, 0, 0, 0, 0, 0, 0, 0] (fun _ w' => Turn (w.heap.size + 1) W0.heap.size W0 w' ∧ Box w' (w.heap.size + 1) [.int .i64 0, .int .i64 0]) (by kernel_rfl) (by kernel_rfl) (⟨⟨rfl, rfl, rfl, Nat.le_refl _, fun _ _ _ => rfl⟩, b1.keep rfl⟩) ?_ ?_
  · refine Obs_of_ends (by kernel_rfl) ?_
    intro Fr hEA
    refine ⟨?_, ?_, ?_, ?_, ?_, ?_, ?_, ?_, ?_, ?_, ?_, ?_, ?_, ?_, ?_, ?_, ?_, ?_, ?_, ?_, trivial⟩
    · refine ob_val (want_none rfl) (by kernel_rfl) (fun ph w' hp hpm hw => ?_)
      simp [execOp, go_sem]
    · exact ob_move _ rfl (want_none rfl) (by kernel_rfl) (eval_out hEA (d := 0) (by kernel_rfl))
    · refine ob_val (want_none rfl) (by kernel_rfl) (fun ph w' hp hpm hw => ?_)
      have e21 : Fr.tmps[21]? = some (.slice A 0 cap) := hEA.dst 1 _ 21 rfl rfl; simp [e21, go_sem]
    · refine ob_val (want_none rfl) (by kernel_rfl) (fun ph w' hp hpm hw => ?_)
      have e22 : Fr.tmps[22]? = some (.int .i64 0) := hEA.dst 2 _ 22 rfl rfl; simp [execOp, e22, go_sem]
    · exact ob_move _ rfl (want_none rfl) (by kernel_rfl) (eval_dst hEA (j := 3) rfl rfl)
    · exact ob_skip (want_is hEA (g := 4) (x := false) (b := true) rfl rfl rfl rfl) (by kernel_rfl) rfl
    · exact ob_skip (want_is hEA (g := 4) (x := false) (b := true) rfl rfl rfl rfl) (by kernel_rfl) rfl
    · exact ob_skip (want_is hEA (g := 4) (x := false) (b := true) rfl rfl rfl rfl) (by kernel_rfl) rfl
    · exact ob_skip (want_is hEA (g := 4) (x := false) (b := true) rfl rfl rfl rfl) (by kernel_rfl) rfl
    · refine ob_val (want_none rfl) (by kernel_rfl) (fun ph w' hp hpm hw => ?_)
      have e24 : Fr.tmps[24]? = some (.bool false) := hEA.dst 4 _ 24 rfl rfl; have e28 : Fr.tmps[28]? = some (undef) := hEA.dst 8 _ 28 rfl rfl; simp [execOp, e24, e28, go_sem]
    · exact ob_move _ rfl (want_none rfl) (by kernel_rfl) (eval_dst hEA (j := 9) rfl rfl)
    · exact ob_skip (want_is hEA (g := 10) (x := false) (b := true) rfl rfl rfl rfl) (by kernel_rfl) rfl
    · exact ob_skip (want_is hEA (g := 10) (x := false) (b := true) rfl rfl rfl rfl) (by kernel_rfl) rfl
    · exact ob_skip (want_is hEA (g := 10) (x := false) (b := true) rfl rfl rfl rfl) (by kernel_rfl) rfl
    · exact ob_skip (want_is hEA (g := 10) (x := false) (b := true) rfl rfl rfl rfl) (by kernel_rfl) rfl
    · exact ob_skip (want_is hEA (g := 10) (x := false) (b := true) rfl rfl rfl rfl) (by kernel_rfl) rfl
    · exact ob_skip (want_is hEA (g := 10) (x := false) (b := true) rfl rfl rfl rfl) (by kernel_rfl) rfl
    · refine ob_val (want_none rfl) (by kernel_rfl) (fun ph w' hp hpm hw => ?_)
      have e30 : Fr.tmps[30]? = some (.bool false) := hEA.dst 10 _ 30 rfl rfl; have e36 : Fr.tmps[36]? = some (undef) := hEA.dst 16 _ 36 rfl rfl; simp [execOp, e30, e36, go_sem]
    · refine ob_store (q := 0) rfl (want_none rfl) (by kernel_rfl) (fun w' hw => ?_)
      have e4 : Fr.tmps[4]? = some (.pointer (some ⟨w.heap.size + 1, 0, none⟩)) := at_out hEA (d := 4) (by kernel_rfl); have e20 : Fr.tmps[20]? = some (.agg #[.int .i64 0, .int .i64 0]) := hEA.dst 0 _ 20 rfl rfl; 
      have r0 := hw.2.c 0 _ rfl
      have r1 := hw.2.c 1 _ rfl
      have g0 := hw.2.f 0 (by decide)
      have g1 := hw.2.f 1 (by decide)
      refine ⟨(w'.setCell ⟨w.heap.size + 1, 0, none⟩ (.int .i64 0)).setCell ⟨w.heap.size + 1, 1, none⟩ (.int .i64 0), by simp [execOp, e4, e20, r0, r1, g0, g1, go_sem], ?_⟩
      exact ⟨(hw.1.set (Or.inr rfl) _ _).set (Or.inr rfl) _ _, hw.2.two _ _⟩
    · refine ob_val (want_none rfl) (by kernel_rfl) (fun ph w' hp hpm hw => ?_)
      have e37 : Fr.tmps[37]? = some (.bool false) := hEA.dst 17 _ 37 rfl rfl; simp [execOp, e37, go_sem]
  · intro w' hw
    simp only [laid, Act.put, List.setIfInBounds_toArray, List.set_cons_succ, List.set_cons_zero, List.getD_cons_succ, List.getD_cons_zero, Nat.zero_add, Nat.reduceAdd]
    have r0 := hw.2.c 0 _ rfl
    have r1 := hw.2.c 1 _ rfl
    have BB := Lib.hid (B.trans (hw.1.below (Nat.le_succ _) B.size))
    clear b0 b1 B hw
    go_wp2
    (try simp only [Exit.inBlock, Exit.then]); refine bodyPost_ret (v := .tuple #[.agg #[.int .i64 0, .int .i64 0], .bool false]) (by simp [results, Try.results14, go_sem, r0, r1]) rfl ?_
    exact ⟨rfl, BB.out⟩
set_option maxRecDepth 100000 in
set_option maxHeartbeats 8000000 in
theorem refOf_leaf (a b : Int) (v : Value) (m1 m2 : Int) (w : World) (h : Spots w.heap.size w (flat (.leaf a b)) [v]) :
    Calls Try.prog 14 #[v, vM m1 m2] w fun e W' => e = .returned (.tuple #[vM (ofO (some (.leaf a b)) (m1, m2)).1.1 (ofO (some (.leaf a b)) (m1, m2)).1.2, .bool (ofO (some (.leaf a b)) (m1, m2)).2]) ∧ Below w.heap.size w W' := by
  have HX := Lib.hid h
  obtain ⟨A, cap, rfl, hlc, hcm, hp⟩ := spots_at h
  obtain ⟨g, off, rfl, hg, k0, k1, k2⟩ := hp 0 (by simp [flat])
  replace k0 : w.cell? ⟨g, off + 0 * 3, none⟩ = some (.bool true) := k0
  replace k1 : w.cell? ⟨g, off + 0 * 3 + 1, none⟩ = some (.int .i64 a) := k1
  replace k2 : w.cell? ⟨g, off + 0 * 3 + 2, none⟩ = some (.int .i64 b) := k2
  simp only [Nat.zero_mul, Nat.add_zero] at k0 k1 k2
  clear h hp
  go_enter Try.func14, Try.ntmps14
  go_wp2_with fail
  obtain ⟨W0, hW0, b0, b1, B⟩ := new2 w [.int .i64 m1, .int .i64 m2] [.int .i64 0, .int .i64 0] 26 24
  rw [hW0]
  clear hW0
  refine (refHalves_few (flat (.leaf a b)) _ W0 (keeps_spots _ _ _ _ _ _ HX.out B B.size) (by simp [flat])).mono ?_
  rintro e W1 ⟨rfl, rfl⟩
  replace k0 := (B.cell (p := ⟨g, off, none⟩) hg).trans k0
  replace k1 := (B.cell (p := ⟨g, off + 1, none⟩) hg).trans k1
  replace k2 := (B.cell (p := ⟨g, off + 2, none⟩) hg).trans k2
  have hgg : g ≠ w.heap.size + 1 := by omega
  replace hg : g < W0.heap.size := Nat.lt_of_lt_of_le hg B.size
  have q0 := b0.c 0 _ rfl
  have q1 := b0.c 1 _ rfl
  obtain ⟨N, hN⟩ : ∃ N, (flat (.leaf a b)).length = N := ⟨_, rfl⟩
  have hN1 : ((N : Int) == 1) = true := by rw [← hN]; rfl
  have hNp : 0 < N := by rw [← hN]; simp [flat]
  rw [hN]
  clear hN hlc
  by_cases hm : (a, b) = (m1, m2)
  · have HU : Hid (ofO (some (.leaf a b)) (m1, m2) = ((0, 0), true)) := Lib.hid (ofO_some (p := []) (by show (if (a, b) = (m1, m2) then some [] else none) = some []; rw [if_pos hm]))
    obtain ⟨e1, e2⟩ : a = m1 ∧ b = m2 := by simpa using hm
    clear hm
    go_wp2_with fail
    refine wp_region_plan (fun i => ([.agg #[.int .i64 0, .int .i64 0], .slice (some ⟨g, off, none⟩) N cap, .int .i64 (N : Int), .bool true, .bool true, .slice (some ⟨g, off, none⟩) N cap, .pointer (some ⟨g, off, none⟩), .pointer (some ⟨g, off, none⟩), .bool true, .bool true, .bool true, .slice (some ⟨g, off, none⟩) N cap, .pointer (some ⟨g, off, none⟩), .pointer (some ⟨g, off + 1, none⟩), .agg #[.int .i64 a, .int .i64 b], .agg #[.int .i64 m1, .int .i64 m2], .bool true, .bool true, undef, .bool true] : List Value).getD i undef) [18] [0, 0, 0, 0, 0, 0, 0, 0, 0, 0, 0, 0, 0, 0, 0, 0, 0, 0, 0, 0] (fun _ w' => Turn (w.heap.size + 1) W0.heap.size W0 w' ∧ Box w' (w.heap.size + 1) [.int .i64 0, .int .i64 0]) (by kernel_rfl) (by kernel_rfl) (⟨⟨rfl, rfl, rfl, Nat.le_refl _, fun _ _ _ => rfl⟩, b1.keep rfl⟩) ?_ ?_
    · refine Obs_of_ends (by kernel_rfl) ?_
      intro Fr hEA
      refine ⟨?_, ?_, ?_, ?_, ?_, ?_, ?_, ?_, ?_, ?_, ?_, ?_, ?_, ?_, ?_, ?_, ?_, ?_, ?_, ?_, trivial⟩
      · refine ob_val (want_none rfl) (by kernel_rfl) (fun ph w' hp hpm hw => ?_)
        simp [execOp, go_sem]
      · exact ob_move _ rfl (want_none rfl) (by kernel_rfl) (eval_out hEA (d := 0) (by kernel_rfl))
      · refine ob_val (want_none rfl) (by kernel_rfl) (fun ph w' hp hpm hw => ?_)
        have e21 : Fr.tmps[21]? = some (.slice (some ⟨g, off, none⟩) N cap) := hEA.dst 1 _ 21 rfl rfl; simp [e21, go_sem]
      · refine ob_val (want_none rfl) (by kernel_rfl) (fun ph w' hp hpm hw => ?_)
        have e22 : Fr.tmps[22]? = some (.int .i64 (N : Int)) := hEA.dst 2 _ 22 rfl rfl; simp [execOp, e22, hN1, go_sem]
      · exact ob_move _ rfl (want_none rfl) (by kernel_rfl) (eval_dst hEA (j := 3) rfl rfl)
      · exact ob_move _ rfl (want_is hEA (g := 4) (x := true) (b := true) rfl rfl rfl rfl) (by kernel_rfl) (eval_out hEA (d := 0) (by kernel_rfl))
      · refine ob_val (want_is hEA (g := 4) (x := true) (b := true) rfl rfl rfl rfl) (by kernel_rfl) (fun ph w' hp hpm hw => ?_)
        have e25 : Fr.tmps[25]? = some (.slice (some ⟨g, off, none⟩) N cap) := hEA.dst 5 _ 25 rfl rfl; simp [execOp, e25, hNp, go_sem]
      · refine ob_val (want_is hEA (g := 4) (x := true) (b := true) rfl rfl rfl rfl) (by kernel_rfl) (fun ph w' hp hpm hw => ?_)
        have e26 : Fr.tmps[26]? = some (.pointer (some ⟨g, off, none⟩)) := hEA.dst 6 _ 26 rfl rfl; simp [execOp, e26, go_sem]
      · refine ob_val (want_is hEA (g := 4) (x := true) (b := true) rfl rfl rfl rfl) (by kernel_rfl) (fun ph w' hp hpm hw => ?_)
        have hc0 := (hw.1.cell (p := ⟨g, off, none⟩) hg hgg).trans k0
        have e27 : Fr.tmps[27]? = some (.pointer (some ⟨g, off, none⟩)) := hEA.dst 7 _ 27 rfl rfl; simp [execOp, e27, hc0, go_sem]
      · refine ob_val (want_none rfl) (by kernel_rfl) (fun ph w' hp hpm hw => ?_)
        have e24 : Fr.tmps[24]? = some (.bool true) := hEA.dst 4 _ 24 rfl rfl; have e28 : Fr.tmps[28]? = some (.bool true) := hEA.dst 8 _ 28 rfl rfl; simp [execOp, e24, e28, go_sem]
      · exact ob_move _ rfl (want_none rfl) (by kernel_rfl) (eval_dst hEA (j := 9) rfl rfl)
      · exact ob_move _ rfl (want_is hEA (g := 10) (x := true) (b := true) rfl rfl rfl rfl) (by kernel_rfl) (eval_out hEA (d := 0) (by kernel_rfl))
      · refine ob_val (want_is hEA (g := 10) (x := true) (b := true) rfl rfl rfl rfl) (by kernel_rfl) (fun ph w' hp hpm hw => ?_)
        have e31 : Fr.tmps[31]? = some (.slice (some ⟨g, off, none⟩) N cap) := hEA.dst 11 _ 31 rfl rfl; simp [execOp, e31, hNp, go_sem]
      · refine ob_val (want_is hEA (g := 10) (x := true) (b := true) rfl rfl rfl rfl) (by kernel_rfl) (fun ph w' hp hpm hw => ?_)
        have e32 : Fr.tmps[32]? = some (.pointer (some ⟨g, off, none⟩)) := hEA.dst 12 _ 32 rfl rfl; simp [execOp, e32, go_sem]
      · refine ob_val (want_is hEA (g := 10) (x := true) (b := true) rfl rfl rfl rfl) (by kernel_rfl) (fun ph w' hp hpm hw => ?_)
        have hc0 := (hw.1.cell (p := ⟨g, off + 1, none⟩) hg hgg).trans k1
        have hc1 := (hw.1.cell (p := ⟨g, off + 2, none⟩) hg hgg).trans k2
        have e33 : Fr.tmps[33]? = some (.pointer (some ⟨g, off + 1, none⟩)) := hEA.dst 13 _ 33 rfl rfl; simp [execOp, e33, hc0, hc1, go_sem]
      · refine ob_val (want_is hEA (g := 10) (x := true) (b := true) rfl rfl rfl rfl) (by kernel_rfl) (fun ph w' hp hpm hw => ?_)
        have hc0 := (hw.1.cell (p := ⟨w.heap.size, 0, none⟩) b0.lt (Nat.ne_of_lt (Nat.lt_succ_self _))).trans q0
        have hc1 := (hw.1.cell (p := ⟨w.heap.size, 1, none⟩) b0.lt (Nat.ne_of_lt (Nat.lt_succ_self _))).trans q1
        have e3 : Fr.tmps[3]? = some (.pointer (some ⟨w.heap.size, 0, none⟩)) := at_out hEA (d := 3) (by kernel_rfl); simp [execOp, e3, hc0, hc1, go_sem]
      · refine ob_val (want_is hEA (g := 10) (x := true) (b := true) rfl rfl rfl rfl) (by kernel_rfl) (fun ph w' hp hpm hw => ?_)
        have e34 : Fr.tmps[34]? = some (.agg #[.int .i64 a, .int .i64 b]) := hEA.dst 14 _ 34 rfl rfl; have e35 : Fr.tmps[35]? = some (.agg #[.int .i64 m1, .int .i64 m2]) := hEA.dst 15 _ 35 rfl rfl; simp [execOp, e34, e35, e1, e2, go_sem]
      · refine ob_val (want_none rfl) (by kernel_rfl) (fun ph w' hp hpm hw => ?_)
        have e30 : Fr.tmps[30]? = some (.bool true) := hEA.dst 10 _ 30 rfl rfl; have e36 : Fr.tmps[36]? = some (.bool true) := hEA.dst 16 _ 36 rfl rfl; simp [execOp, e30, e36, go_sem]
      · refine ob_store (q := 0) rfl (want_none rfl) (by kernel_rfl) (fun w' hw => ?_)
        have e4 : Fr.tmps[4]? = some (.pointer (some ⟨w.heap.size + 1, 0, none⟩)) := at_out hEA (d := 4) (by kernel_rfl); have e20 : Fr.tmps[20]? = some (.agg #[.int .i64 0, .int .i64 0]) := hEA.dst 0 _ 20 rfl rfl; 
        have r0 := hw.2.c 0 _ rfl
        have r1 := hw.2.c 1 _ rfl
        have g0 := hw.2.f 0 (by decide)
        have g1 := hw.2.f 1 (by decide)
        refine ⟨(w'.setCell ⟨w.heap.size + 1, 0, none⟩ (.int .i64 0)).setCell ⟨w.heap.size + 1, 1, none⟩ (.int .i64 0), by simp [execOp, e4, e20, r0, r1, g0, g1, go_sem], ?_⟩
        exact ⟨(hw.1.set (Or.inr rfl) _ _).set (Or.inr rfl) _ _, hw.2.two _ _⟩
      · refine ob_val (want_none rfl) (by kernel_rfl) (fun ph w' hp hpm hw => ?_)
        have e37 : Fr.tmps[37]? = some (.bool true) := hEA.dst 17 _ 37 rfl rfl; simp [execOp, e37, go_sem]
    · intro w' hw
      simp only [laid, Act.put, List.setIfInBounds_toArray, List.set_cons_succ, List.set_cons_zero, List.getD_cons_succ, List.getD_cons_zero, Nat.zero_add, Nat.reduceAdd]
      have r0 := hw.2.c 0 _ rfl
      have r1 := hw.2.c 1 _ rfl
      have BB := Lib.hid (B.trans (hw.1.below (Nat.le_succ _) B.size))
      clear b0 b1 B hw
      go_wp2
      (try simp only [Exit.inBlock, Exit.then]); refine bodyPost_ret (v := .tuple #[.agg #[.int .i64 0, .int .i64 0], .bool true]) (by simp [results, Try.results14, go_sem, r0, r1]) rfl ?_
      rw [HU.out]
      exact ⟨rfl, BB.out⟩
  · have HU : Hid (ofO (some (.leaf a b)) (m1, m2) = ((0, 0), false)) := Lib.hid (ofO_none (by show (if (a, b) = (m1, m2) then some [] else none) = none; rw [if_neg hm]))
    have hne : a = m1 → ¬ b = m2 := fun e1 e2 => hm (by rw [e1, e2])
    clear hm
    go_wp2_with fail
    refine wp_region_plan (fun i => ([.agg #[.int .i64 0, .int .i64 0], .slice (some ⟨g, off, none⟩) N cap, .int .i64 (N : Int), .bool true, .bool true, .slice (some ⟨g, off, none⟩) N cap, .pointer (some ⟨g, off, none⟩), .pointer (some ⟨g, off, none⟩), .bool true, .bool true, .bool true, .slice (some ⟨g, off, none⟩) N cap, .pointer (some ⟨g, off, none⟩), .pointer (some ⟨g, off + 1, none⟩), .agg #[.int .i64 a, .int .i64 b], .agg #[.int .i64 m1, .int .i64 m2], .bool false, .bool false, undef, .bool false] : List Value).getD i undef) [18] [0, 0, 0, 0, 0, 0, 0, 0, 0, 0, 0, 0, 0, 0, 0, 0, 0, 0, 0, 0] (fun _ w' => Turn (w.heap.size + 1) W0.heap.size W0 w' ∧ Box w' (w.heap.size + 1) [.int .i64 0, .int .i64 0]) (by kernel_rfl) (by kernel_rfl) (⟨⟨rfl, rfl, rfl, Nat.le_refl _, fun _ _ _ => rfl⟩, b1.keep rfl⟩) ?_ ?_
    · refine Obs_of_ends (by kernel_rfl) ?_
      intro Fr hEA
      refine ⟨?_, ?_, ?_, ?_, ?_, ?_, ?_, ?_, ?_, ?_, ?_, ?_, ?_, ?_, ?_, ?_, ?_, ?_, ?_, ?_, trivial⟩
      · refine ob_val (want_none rfl) (by kernel_rfl) (fun ph w' hp hpm hw => ?_)
        simp [execOp, go_sem]
      · exact ob_move _ rfl (want_none rfl) (by kernel_rfl) (eval_out hEA (d := 0) (by kernel_rfl))
      · refine ob_val (want_none rfl) (by kernel_rfl) (fun ph w' hp hpm hw => ?_)
        have e21 : Fr.tmps[21]? = some (.slice (some ⟨g, off, none⟩) N cap) := hEA.dst 1 _ 21 rfl rfl; simp [e21, go_sem]
      · refine ob_val (want_none rfl) (by kernel_rfl) (fun ph w' hp hpm hw => ?_)
        have e22 : Fr.tmps[22]? = some (.int .i64 (N : Int)) := hEA.dst 2 _ 22 rfl rfl; simp [execOp, e22, hN1, go_sem]
      · exact ob_move _ rfl (want_none rfl) (by kernel_rfl) (eval_dst hEA (j := 3) rfl rfl)
      · exact ob_move _ rfl (want_is hEA (g := 4) (x := true) (b := true) rfl rfl rfl rfl) (by kernel_rfl) (eval_out hEA (d := 0) (by kernel_rfl))
      · refine ob_val (want_is hEA (g := 4) (x := true) (b := true) rfl rfl rfl rfl) (by kernel_rfl) (fun ph w' hp hpm hw => ?_)
        have e25 : Fr.tmps[25]? = some (.slice (some ⟨g, off, none⟩) N cap) := hEA.dst 5 _ 25 rfl rfl; simp [execOp, e25, hNp, go_sem]
      · refine ob_val (want_is hEA (g := 4) (x := true) (b := true) rfl rfl rfl rfl) (by kernel_rfl) (fun ph w' hp hpm hw => ?_)
        have e26 : Fr.tmps[26]? = some (.pointer (some ⟨g, off, none⟩)) := hEA.dst 6 _ 26 rfl rfl; simp [execOp, e26, go_sem]
      · refine ob_val (want_is hEA (g := 4) (x := true) (b := true) rfl rfl rfl rfl) (by kernel_rfl) (fun ph w' hp hpm hw => ?_)
        have hc0 := (hw.1.cell (p := ⟨g, off, none⟩) hg hgg).trans k0
        have e27 : Fr.tmps[27]? = some (.pointer (some ⟨g, off, none⟩)) := hEA.dst 7 _ 27 rfl rfl; simp [execOp, e27, hc0, go_sem]
      · refine ob_val (want_none rfl) (by kernel_rfl) (fun ph w' hp hpm hw => ?_)
        have e24 : Fr.tmps[24]? = some (.bool true) := hEA.dst 4 _ 24 rfl rfl; have e28 : Fr.tmps[28]? = some (.bool true) := hEA.dst 8 _ 28 rfl rfl; simp [execOp, e24, e28, go_sem]
      · exact ob_move _ rfl (want_none rfl) (by kernel_rfl) (eval_dst hEA (j := 9) rfl rfl)
      · exact ob_move _ rfl (want_is hEA (g := 10) (x := true) (b := true) rfl rfl rfl rfl) (by kernel_rfl) (eval_out hEA (d := 0) (by kernel_rfl))
      · refine ob_val (want_is hEA (g := 10) (x := true) (b := true) rfl rfl rfl rfl) (by kernel_rfl) (fun ph w' hp hpm hw => ?_)
        have e31 : Fr.tmps[31]? = some (.slice (some ⟨g, off, none⟩) N cap) := hEA.dst 11 _ 31 rfl rfl; simp [execOp, e31, hNp, go_sem]
      · refine ob_val (want_is hEA (g := 10) (x := true) (b := true) rfl rfl rfl rfl) (by kernel_rfl) (fun ph w' hp hpm hw => ?_)
        have e32 : Fr.tmps[32]? = some (.pointer (some ⟨g, off, none⟩)) := hEA.dst 12 _ 32 rfl rfl; simp [execOp, e32, go_sem]
      · refine ob_val (want_is hEA (g := 10) (x := true) (b := true) rfl rfl rfl rfl) (by kernel_rfl) (fun ph w' hp hpm hw => ?_)
        have hc0 := (hw.1.cell (p := ⟨g, off + 1, none⟩) hg hgg).trans k1
        have hc1 := (hw.1.cell (p := ⟨g, off + 2, none⟩) hg hgg).trans k2
        have e33 : Fr.tmps[33]? = some (.pointer (some ⟨g, off + 1, none⟩)) := hEA.dst 13 _ 33 rfl rfl; simp [execOp, e33, hc0, hc1, go_sem]
      · refine ob_val (want_is hEA (g := 10) (x := true) (b := true) rfl rfl rfl rfl) (by kernel_rfl) (fun ph w' hp hpm hw => ?_)
        have hc0 := (hw.1.cell (p := ⟨w.heap.size, 0, none⟩) b0.lt (Nat.ne_of_lt (Nat.lt_succ_self _))).trans q0
        have hc1 := (hw.1.cell (p := ⟨w.heap.size, 1, none⟩) b0.lt (Nat.ne_of_lt (Nat.lt_succ_self _))).trans q1
        have e3 : Fr.tmps[3]? = some (.pointer (some ⟨w.heap.size, 0, none⟩)) := at_out hEA (d := 3) (by kernel_rfl); simp [execOp, e3, hc0, hc1, go_sem]
      · refine ob_val (want_is hEA (g := 10) (x := true) (b := true) rfl rfl rfl rfl) (by kernel_rfl) (fun ph w' hp hpm hw => ?_)
        have e34 : Fr.tmps[34]? = some (.agg #[.int .i64 a, .int .i64 b]) := hEA.dst 14 _ 34 rfl rfl; have e35 : Fr.tmps[35]? = some (.agg #[.int .i64 m1, .int .i64 m2]) := hEA.dst 15 _ 35 rfl rfl; simp [execOp, e34, e35, go_sem]; exact hne
      · refine ob_val (want_none rfl) (by kernel_rfl) (fun ph w' hp hpm hw => ?_)
        have e30 : Fr.tmps[30]? = some (.bool true) := hEA.dst 10 _ 30 rfl rfl; have e36 : Fr.tmps[36]? = some (.bool false) := hEA.dst 16 _ 36 rfl rfl; simp [execOp, e30, e36, go_sem]
      · refine ob_store (q := 0) rfl (want_none rfl) (by kernel_rfl) (fun w' hw => ?_)
        have e4 : Fr.tmps[4]? = some (.pointer (some ⟨w.heap.size + 1, 0, none⟩)) := at_out hEA (d := 4) (by kernel_rfl); have e20 : Fr.tmps[20]? = some (.agg #[.int .i64 0, .int .i64 0]) := hEA.dst 0 _ 20 rfl rfl; 
        have r0 := hw.2.c 0 _ rfl
        have r1 := hw.2.c 1 _ rfl
        have g0 := hw.2.f 0 (by decide)
        have g1 := hw.2.f 1 (by decide)
        refine ⟨(w'.setCell ⟨w.heap.size + 1, 0, none⟩ (.int .i64 0)).setCell ⟨w.heap.size + 1, 1, none⟩ (.int .i64 0), by simp [execOp, e4, e20, r0, r1, g0, g1, go_sem], ?_⟩
        exact ⟨(hw.1.set (Or.inr rfl) _ _).set (Or.inr rfl) _ _, hw.2.two _ _⟩
      · refine ob_val (want_none rfl) (by kernel_rfl) (fun ph w' hp hpm hw => ?_)
        have e37 : Fr.tmps[37]? = some (.bool false) := hEA.dst 17 _ 37 rfl rfl; simp [execOp, e37, go_sem]
    · intro w' hw
      simp only [laid, Act.put, List.setIfInBounds_toArray, List.set_cons_succ, List.set_cons_zero, List.getD_cons_succ, List.getD_cons_zero, Nat.zero_add, Nat.reduceAdd]
      have r0 := hw.2.c 0 _ rfl
      have r1 := hw.2.c 1 _ rfl
      have BB := Lib.hid (B.trans (hw.1.below (Nat.le_succ _) B.size))
      clear b0 b1 B hw
      go_wp2
      (try simp only [Exit.inBlock, Exit.then]); refine bodyPost_ret (v := .tuple #[.agg #[.int .i64 0, .int .i64 0], .bool false]) (by simp [results, Try.results14, go_sem, r0, r1]) rfl ?_
      rw [HU.out]
      exact ⟨rfl, BB.out⟩

set_option maxRecDepth 100000 in
set_option maxHeartbeats 8000000 in
theorem refOf_flat : ∀ (t : Tr) (v : Value) (m1 m2 : Int) (w : World), Spots w.heap.size w (flat t) [v] → (flat t).length ≤ 1000000 → ht t ≤ 60 →
    Calls Try.prog 14 #[v, vM m1 m2] w fun e W' => e = .returned (.tuple #[vM (ofO (some t) (m1, m2)).1.1 (ofO (some t) (m1, m2)).1.2, .bool (ofO (some t) (m1, m2)).2]) ∧ Below w.heap.size w W'
  | .leaf a b, v, m1, m2, w, h, _, _ => refOf_leaf a b v m1 m2 w h
  | .inner a b l r, v, m1, m2, w, h, hn, hh => by
    have HX := Lib.hid h
    obtain ⟨A, cap, rfl, hlc, hcm, -⟩ := spots_at h
    have hl := flat_inner_len a b l r
    have hfl : (flat l).length ≤ 1000000 := by omega
    have hfr : (flat r).length ≤ 1000000 := by omega
    have hht : ht (.inner a b l r) = 1 + max (ht l) (ht r) := rfl
    have hhl : ht l ≤ 59 := by omega
    have hhr : ht r ≤ 59 := by omega
    have ihl := Lib.hid (fun v m1 m2 w h => refOf_flat l v m1 m2 w h hfl (by omega))
    have ihr := Lib.hid (fun v m1 m2 w h => refOf_flat r v m1 m2 w h hfr (by omega))
    have HH := Lib.hid (fun v w h => refHalves_inner a b l r v w h hn)
    clear h hl hht hh hlc hcm
    generalize (flat (.inner a b l r)).length = N at *
    go_enter Try.func14, Try.ntmps14
    go_wp2_with fail
    obtain ⟨W0, hW0, b0, b1, B⟩ := new2 w [.int .i64 m1, .int .i64 m2] [.int .i64 0, .int .i64 0] 26 24
    rw [hW0]
    clear hW0
    refine (HH.out _ W0 (keeps_spots _ _ _ _ _ _ HX.out B B.size)).mono ?_
    rintro e W1 ⟨v1, v2, rfl, h1, h2, hb⟩
    replace b0 := b0.next hb
    replace b1 := b1.next hb
    replace B := B.trans (hb.mono B.size)
    clear hb
    have q0 := b0.c 0 _ rfl
    have q1 := b0.c 1 _ rfl
    have H1 := Lib.hid h1
    have H2 := Lib.hid h2
    clear h1 h2
    go_wp2_with fail
    refine (ihl.out _ m1 m2 W1 H1.out).mono ?_
    rintro e W2 ⟨rfl, hb⟩
    replace H2 := Lib.hid (keeps_spots _ _ _ _ _ _ H2.out hb hb.size)
    replace b0 := b0.next hb
    replace b1 := b1.next hb
    replace B := B.trans (hb.mono B.size)
    clear hb
    clear q0 q1
    cases hol : off l (m1, m2) with
    | some p =>
      have hp60 := off_high hol
      have HP : Hid (ofO (some l) (m1, m2) = (((p.length : Int), (idx p : Int)), true)) := Lib.hid (ofO_some hol)
      have HU : Hid (ofO (some (.inner a b l r)) (m1, m2) = (((p.length : Int) + 1, (idx p : Int)), true)) := Lib.hid (by
        rw [ofO_some (p := false :: p) (by simp [offO, off, hol])]
        simp [labOf, idx])
      have hip : idx p < 1152921504606846976 := Nat.lt_of_lt_of_le (idx_lt p) (Nat.le_trans (Nat.pow_le_pow_right (by omega) (show p.length ≤ 60 by omega)) (by decide))
      have hpl : p.length ≤ 59 := by omega
      rw [HP.out]
      clear hol hp60
      generalize p.length = k at *
      generalize idx p = i at *
      have r0 := b1.c 0 _ rfl
      have r1 := b1.c 1 _ rfl
      have g0 := b1.f 0 (by decide)
      have g1 := b1.f 1 (by decide)
      have hlt := b1.lt
      have BB := Lib.hid B
      clear b0 b1 B
      go_wp2
      (try simp only [Exit.inBlock, Exit.then]); refine bodyPost_ret (v := .tuple #[.agg #[.int .i64 ((k : Int) + 1), .int .i64 (i : Int)], .bool true]) (by simp [results, Try.results14, go_sem, hlt, r0, r1]) rfl ?_
      rw [HU.out]
      exact ⟨rfl, ((BB.out.setCell (p := ⟨w.heap.size + 1, 0, none⟩) (Nat.le_succ _) _).setCell (p := ⟨w.heap.size + 1, 1, none⟩) (Nat.le_succ _) _).alloc (by simpa [World.setCell] using BB.out.size) _⟩
    | none =>
      have HP : Hid (ofO (some l) (m1, m2) = (((0 : Int), (0 : Int)), false)) := Lib.hid (ofO_none hol)
      rw [HP.out]
      have q0 := fun o => (b0.next (below_new W2 o)).c 0 _ rfl
      have q1 := fun o => (b0.next (below_new W2 o)).c 1 _ rfl
      go_wp2_with fail
      obtain ⟨W3, hW3, b9, hb⟩ : ∃ W3, W2.alloc (.cells #[.int .i64 0, .int .i64 0] 24) = W3 ∧ Box W3 W2.heap.size [.int .i64 0, .int .i64 0] ∧ Below W2.heap.size W2 W3 := ⟨_, rfl, Box.new W2 _ _, below_new _ _⟩
      rw [hW3]
      clear hW3 q0 q1
      replace H2 := Lib.hid (keeps_spots _ _ _ _ _ _ H2.out hb hb.size)
      have h29 : w.heap.size + 1 < W2.heap.size := b1.lt
      replace b0 := b0.next hb
      replace b1 := b1.next hb
      replace B := B.trans (hb.mono B.size)
      clear hb
      refine (ihr.out _ m1 m2 W3 H2.out).mono ?_
      rintro e W4 ⟨rfl, hb⟩
      replace b9 := b9.next hb
      replace b0 := b0.next hb
      replace b1 := b1.next hb
      replace B := B.trans (hb.mono B.size)
      clear hb
      have r0 := b1.c 0 _ rfl
      have r1 := b1.c 1 _ rfl
      have g0 := b1.f 0 (by decide)
      have g1 := b1.f 1 (by decide)
      have s0 := b9.c 0 _ rfl
      have s1 := b9.c 1 _ rfl
      have t0 := b9.f 0 (by decide)
      have t1 := b9.f 1 (by decide)
      have hne : W2.heap.size ≠ w.heap.size + 1 := by omega
      have hne2 : w.heap.size + 1 ≠ W2.heap.size := by omega
      have hle : w.heap.size ≤ W2.heap.size := by omega
      have BB := Lib.hid B
      clear b0 b1 b9 B h29
      cases hor : off r (m1, m2) with
      | some p =>
        have hp60 := off_high hor
        have HQ : Hid (ofO (some r) (m1, m2) = (((p.length : Int), (idx p : Int)), true)) := Lib.hid (ofO_some hor)
        have HU : Hid (ofO (some (.inner a b l r)) (m1, m2) = (((p.length : Int) + 1, ((2 ^ p.length + idx p : Nat) : Int)), true)) := Lib.hid (by
          rw [ofO_some (p := true :: p) (by simp [offO, off, hol, hor])]
          simp [labOf, idx])
        have hip : idx p < 2 ^ p.length := idx_lt p
        have hpl : p.length ≤ 59 := by omega
        have hpw2 := pow_le59 hpl
        have HW := wrap_pow (k := p.length) (by omega)
        have HS := wrap_sum p.length hip hpw2
        rw [HQ.out]
        clear hor hol hp60 hpw2
        generalize hy : 2 ^ p.length + idx p = y at *
        generalize p.length = k at *
        generalize idx p = i at *
        clear hy
        have HSS := Lib.hid HS
        clear HS hip
        go_wp2
        (try simp only [Exit.inBlock, Exit.then]); refine bodyPost_ret (v := .tuple #[.agg #[.int .i64 ((k : Int) + 1), .int .i64 (y : Int)], .bool true]) (by simp [results, Try.results14, go_sem, r0, r1, HSS.out]) rfl ?_
        rw [HU.out]
        exact ⟨rfl, (((BB.out.setCell (p := ⟨W2.heap.size, 0, none⟩) hle _).setCell (p := ⟨W2.heap.size, 1, none⟩) hle _).setCell (p := ⟨w.heap.size + 1, 0, none⟩) (Nat.le_succ _) _).setCell (p := ⟨w.heap.size + 1, 1, none⟩) (Nat.le_succ _) _⟩
      | none =>
        have HQ : Hid (ofO (some r) (m1, m2) = (((0 : Int), (0 : Int)), false)) := Lib.hid (ofO_none hor)
        have HU : Hid (ofO (some (.inner a b l r)) (m1, m2) = (((0 : Int), (0 : Int)), false)) := Lib.hid (ofO_none (by simp [offO, off, hol, hor]))
        rw [HQ.out]
        clear hor hol
        go_wp2
        (try simp only [Exit.inBlock, Exit.then]); refine bodyPost_ret (v := .tuple #[.agg #[.int .i64 0, .int .i64 0], .bool false]) (by simp [results, Try.results14, go_sem, r0, r1]) rfl ?_
        rw [HU.out]
        exact ⟨rfl, (((BB.out.setCell (p := ⟨W2.heap.size, 0, none⟩) hle _).setCell (p := ⟨W2.heap.size, 1, none⟩) hle _).setCell (p := ⟨w.heap.size + 1, 0, none⟩) (Nat.le_succ _) _).setCell (p := ⟨w.heap.size + 1, 1, none⟩) (Nat.le_succ _) _⟩

end Go.Proofs.Ytlmkgkfildgkgaa
