/- lodgelaw09.TreeReads answers true, whatever text comes in, and leaves memory below as it was. No condition. -/
import Derived.Test.YtgnebmandifhiaaAwake9
namespace Go.Proofs.Ytgnebmandifhiaa
open Go Go.RowKit
set_option linter.unusedVariables false

theorem treeOf_few (st : Option (List UInt8)) : (treeOf st).length ≤ 128 := by
  unfold treeOf
  split
  · rw [rdOf_length]
    unfold treeN
    have := numOf_range st 128 (by omega)
    omega
  · exact Nat.zero_le _
theorem front_text (l : List UInt8) (k : Nat) (hk : k ≤ l.length) (wx : World) : (Instr.slice 9 (.string (tx l)) none (some (.int .i64 (k : Int))) none).run Try.prog wx = .ok (.string (tx (l.take k))) wx := by
  rw [run_slice_string_h _ _ _ Try.underlying9 _ _ (by omega) (by rw [tx_size]; omega)]
  rw [Int.toNat_natCast, tx_take]
theorem BadAt.both {w : World} {b n : Nat} (h : At w b n none) : ∃ r, w.cell? ⟨b, 0, none⟩ = some (.string (tx r)) := by
  obtain ⟨r, _, h⟩ := h
  exact ⟨r, h.s⟩
set_option maxRecDepth 100000 in
set_option maxHeartbeats 8000000 in
theorem treeReads_walk (s : ByteArray) (w : World) (hs : s.size ≤ maxLen) :
    Calls Try.prog 4 #[.string s] w fun e w' => e = .returned (.bool true) ∧ Below w.heap.size w w' := by
  obtain ⟨l, rfl⟩ : ∃ l, s = tx l := ⟨_, tx_of s⟩
  rw [tx_size] at hs
  have hsz : (tx l).size = l.length := tx_size l
  have hl63 : l.length ≤ 9223372036854775807 := Nat.le_trans hs (by decide)
  clear hs
  by_cases h1 : 2000 < l.length
  · have hd : decide (2000 < l.length) = true := decide_eq_true h1
    have hd2 : decide ((2000 : Int) < (l.length : Int)) = true := decide_eq_true (by omega)
    go_enter Try.func4, Try.ntmps4
    go_wp2_with fail
    refine (awake9_any w).mono ?_
    rintro e W9 ⟨rfl, B9⟩
    go_wp2
    go_ret
    exact ⟨rfl, B9⟩

  · have hd : decide (2000 < l.length) = false := decide_eq_false h1
    have hd2 : decide ((2000 : Int) < (l.length : Int)) = false := decide_eq_false (by omega)
    go_enter Try.func4, Try.ntmps4
    go_wp2_with fail
    obtain ⟨W1, hW1, hA, hB, B, hgab⟩ : ∃ W1, (w.alloc (.cells #[.string (tx l), .bool false] 37)).alloc (.cells #[.string (tx l), .bool false] 39) = W1 ∧ At W1 w.heap.size l.length (some l) ∧ At W1 (w.heap.size + 1) l.length (some l) ∧ Below w.heap.size w W1 ∧ W1.heap.size = w.heap.size + 1 + 1 := by
      refine ⟨_, rfl, ?_, ?_, below_new2 _ _ _, by simp⟩
      · have h0 := leftAt_new w (tx l) l 37 rfl
        exact At.next (st := some l) ⟨h0, Nat.le_refl _⟩ (below_new _ _)
      · have h0 := leftAt_new (w.alloc (.cells #[.string (tx l), .bool false] 37)) (tx l) l 39 rfl
        have e : (w.alloc (.cells #[.string (tx l), .bool false] 37)).heap.size = w.heap.size + 1 := by simp
        rw [e] at h0
        exact ⟨h0, Nat.le_refl _⟩
    rw [hW1]
    obtain ⟨ga, hga⟩ : ∃ g, w.heap.size = g := ⟨_, rfl⟩
    obtain ⟨gb, hgb⟩ : ∃ g, w.heap.size + 1 = g := ⟨_, rfl⟩
    have HGA := Lib.hid hga
    have HGB := Lib.hid hgb
    rw [hgb] at hB
    try rw [hgb]
    rw [hga] at hA
    try rw [hga]
    clear hW1 hga hgb
    refine (readT_own ga _ _ W1 hA hl63).mono ?_
    rintro e W2 ⟨vx, rfl, hx, hA, T⟩
    have hB2 : At W2 gb l.length (some l) := hB.keep (T.block gb hB.lt (by have := HGA.out; have := HGB.out; omega))
    have B2 : Below w.heap.size w W2 := B.trans (T.below (Nat.le_of_eq HGA.out) B.size)
    clear hB B
    go_wp2_with fail
    refine (refReadT_any gb _ _ W2 hB2 hl63).mono ?_
    rintro e W0 ⟨vy, rfl, hy, hB, T2⟩
    have hA2 : At W0 ga l.length (treeSt (some l)) := hA.keep (T2.block ga hA.lt (by have := HGA.out; have := HGB.out; omega))
    have hxs : Spots W0.heap.size W0 (treeOf (some l)) [vx] := by
      exact own_spots (owns_turn hx (by have := HGB.out; omega) T2)
    have B : Below w.heap.size w W0 := B2.trans (T2.below (by have := HGB.out; omega) B2.size)
    have hga := hA2.lt
    have hgb := hB.lt
    have HX := Lib.hid hxs
    have HY := Lib.hid hy
    have hn : (treeOf (some l)).length ≤ 1000000 := by have := treeOf_few (some l); omega
    clear hx hA hB2 T T2 B2 hxs hy
    cases hst : treeSt (some l) with
    | none =>
      rw [hst] at hA2 hB
      have a1 := hA2.ill
      have b1 := hB.ill
      have HTN := Lib.hid (tree_none hst)
      clear hA2 hB hst
      generalize treeOf (some l) = xs at *
      go_wp2_with fail
      refine wp_region_plan (fun i => ([.bool true, .bool true, vx, vy, .bool true, .bool true, .bool true, .pointer (some ⟨ga, 0, none⟩), .pointer (some ⟨ga, 0, none⟩), .pointer (some ⟨ga, 1, none⟩), .bool true, .pointer (some ⟨gb, 0, none⟩), .pointer (some ⟨gb, 0, none⟩), .pointer (some ⟨gb, 1, none⟩), .bool true, .bool true, .bool true, .bool true, .pointer (some ⟨ga, 0, none⟩), .pointer (some ⟨ga, 0, none⟩), .pointer (some ⟨ga, 1, none⟩), .bool true, .bool true, undef, undef, undef, undef, undef, undef, undef, undef, undef, undef, undef, undef, undef, undef, undef, undef, undef, undef, undef, undef, undef, undef, undef, undef, undef, undef, undef, undef, .bool true, .bool true, .bool true] : List Value).getD i undef) [0, 4] [0, 1, 1, 1, 1, 2, 2, 2, 2, 2, 2, 2, 2, 2, 2, 2, 2, 2, 2, 2, 2, 2, 2, 2, 2, 2, 2, 2, 2, 2, 2, 2, 2, 2, 2, 2, 2, 2, 2, 2, 2, 2, 2, 2, 2, 2, 2, 2, 2, 2, 2, 2, 2, 2] (fun _ w' => Below W0.heap.size W0 w') (by kernel_rfl) (by kernel_rfl) (⟨rfl, rfl, rfl, Nat.le_refl _, fun _ _ => rfl⟩) ?_ ?_
      · refine Obs_of_ends (by kernel_rfl) ?_
        intro Fr hEA
        refine ⟨?_, ?_, ?_, ?_, ?_, ?_, ?_, ?_, ?_, ?_, ?_, ?_, ?_, ?_, ?_, ?_, ?_, ?_, ?_, ?_, ?_, ?_, ?_, ?_, ?_, ?_, ?_, ?_, ?_, ?_, ?_, ?_, ?_, ?_, ?_, ?_, ?_, ?_, ?_, ?_, ?_, ?_, ?_, ?_, ?_, ?_, ?_, ?_, ?_, ?_, ?_, ?_, ?_, ?_, trivial⟩
        · refine ob_call (q := 0) (f := 8) (args := #[]) (want_none rfl) (by kernel_rfl) (fun w' => by simp [go_sem]) ?_
          intro w' hw
          refine (Calls.mono (R := fun E W' => E = .returned (.bool true) ∧ Below w'.heap.size w' W') (awake9_any w') ?_)
          rintro e w2 ⟨rfl, hb⟩
          exact ⟨rfl, hw.trans (hb.mono hw.size)⟩
        · exact ob_move _ rfl (want_none rfl) (by kernel_rfl) (eval_dst hEA (j := 0) rfl rfl)
        · exact ob_move _ rfl (want_is hEA (g := 1) (x := true) (b := true) rfl rfl rfl rfl) (by kernel_rfl) (eval_out hEA (d := 5) (by kernel_rfl))
        · exact ob_move _ rfl (want_is hEA (g := 1) (x := true) (b := true) rfl rfl rfl rfl) (by kernel_rfl) (eval_out hEA (d := 6) (by kernel_rfl))
        · refine ob_call (q := 1) (f := 18) (args := #[vx, vy]) (want_is hEA (g := 1) (x := true) (b := true) rfl rfl rfl rfl) (by kernel_rfl) (fun w' => by have e23 : Fr.tmps[23]? = some (vx) := hEA.dst 2 _ 23 rfl rfl; have e24 : Fr.tmps[24]? = some (vy) := hEA.dst 3 _ 24 rfl rfl; simp [e23, e24, go_sem]) ?_
          intro w' hw
          refine (Calls.mono (R := fun E W' => E = .returned (.bool true) ∧ Below w'.heap.size w' W') (by have := sameS_any _ _ xs xs w' (keeps_spots _ _ _ _ _ _ HX.out hw hw.size) (keeps_spots _ _ _ _ _ _ HY.out hw hw.size) hn; rwa [show decide (xs = xs) = true from decide_eq_true rfl] at this) ?_)
          rintro e w2 ⟨rfl, hb⟩
          exact ⟨rfl, hw.trans (hb.mono hw.size)⟩
        · refine ob_val (want_none rfl) (by kernel_rfl) (fun ph w' hp hpm hw => ?_)
          have e22 : Fr.tmps[22]? = some (.bool true) := hEA.dst 1 _ 22 rfl rfl; have e25 : Fr.tmps[25]? = some (.bool true) := hEA.dst 4 _ 25 rfl rfl; simp [execOp, e22, e25, go_sem]
        · exact ob_move _ rfl (want_none rfl) (by kernel_rfl) (eval_dst hEA (j := 5) rfl rfl)
        · exact ob_move _ rfl (want_is hEA (g := 6) (x := true) (b := true) rfl rfl rfl rfl) (by kernel_rfl) (eval_out hEA (d := 3) (by kernel_rfl))
        · refine ob_val (want_is hEA (g := 6) (x := true) (b := true) rfl rfl rfl rfl) (by kernel_rfl) (fun ph w' hp hpm hw => ?_)
          have e28 : Fr.tmps[28]? = some (.pointer (some ⟨ga, 0, none⟩)) := hEA.dst 7 _ 28 rfl rfl; simp [execOp, e28, go_sem]
        · refine ob_val (want_is hEA (g := 6) (x := true) (b := true) rfl rfl rfl rfl) (by kernel_rfl) (fun ph w' hp hpm hw => ?_)
          have e29 : Fr.tmps[29]? = some (.pointer (some ⟨ga, 0, none⟩)) := hEA.dst 8 _ 29 rfl rfl; simp [execOp, e29, go_sem]
        · refine ob_val (want_is hEA (g := 6) (x := true) (b := true) rfl rfl rfl rfl) (by kernel_rfl) (fun ph w' hp hpm hw => ?_)
          have hc0 := (hw.cell (p := ⟨ga, 1, none⟩) hga).trans a1
          have e30 : Fr.tmps[30]? = some (.pointer (some ⟨ga, 1, none⟩)) := hEA.dst 9 _ 30 rfl rfl; simp [execOp, e30, hc0, go_sem]
        · exact ob_move _ rfl (want_is hEA (g := 6) (x := true) (b := true) rfl rfl rfl rfl) (by kernel_rfl) (eval_out hEA (d := 4) (by kernel_rfl))
        · refine ob_val (want_is hEA (g := 6) (x := true) (b := true) rfl rfl rfl rfl) (by kernel_rfl) (fun ph w' hp hpm hw => ?_)
          have e32 : Fr.tmps[32]? = some (.pointer (some ⟨gb, 0, none⟩)) := hEA.dst 11 _ 32 rfl rfl; simp [execOp, e32, go_sem]
        · refine ob_val (want_is hEA (g := 6) (x := true) (b := true) rfl rfl rfl rfl) (by kernel_rfl) (fun ph w' hp hpm hw => ?_)
          have e33 : Fr.tmps[33]? = some (.pointer (some ⟨gb, 0, none⟩)) := hEA.dst 12 _ 33 rfl rfl; simp [execOp, e33, go_sem]
        · refine ob_val (want_is hEA (g := 6) (x := true) (b := true) rfl rfl rfl rfl) (by kernel_rfl) (fun ph w' hp hpm hw => ?_)
          have hc0 := (hw.cell (p := ⟨gb, 1, none⟩) hgb).trans b1
          have e34 : Fr.tmps[34]? = some (.pointer (some ⟨gb, 1, none⟩)) := hEA.dst 13 _ 34 rfl rfl; simp [execOp, e34, hc0, go_sem]
        · refine ob_val (want_is hEA (g := 6) (x := true) (b := true) rfl rfl rfl rfl) (by kernel_rfl) (fun ph w' hp hpm hw => ?_)
          have e31 : Fr.tmps[31]? = some (.bool true) := hEA.dst 10 _ 31 rfl rfl; have e35 : Fr.tmps[35]? = some (.bool true) := hEA.dst 14 _ 35 rfl rfl; simp [execOp, e31, e35, go_sem]
        · refine ob_val (want_none rfl) (by kernel_rfl) (fun ph w' hp hpm hw => ?_)
          have e27 : Fr.tmps[27]? = some (.bool true) := hEA.dst 6 _ 27 rfl rfl; have e36 : Fr.tmps[36]? = some (.bool true) := hEA.dst 15 _ 36 rfl rfl; simp [execOp, e27, e36, go_sem]
        · exact ob_move _ rfl (want_none rfl) (by kernel_rfl) (eval_dst hEA (j := 16) rfl rfl)
        · exact ob_move _ rfl (want_is hEA (g := 17) (x := true) (b := true) rfl rfl rfl rfl) (by kernel_rfl) (eval_out hEA (d := 3) (by kernel_rfl))
        · refine ob_val (want_is hEA (g := 17) (x := true) (b := true) rfl rfl rfl rfl) (by kernel_rfl) (fun ph w' hp hpm hw => ?_)
          have e39 : Fr.tmps[39]? = some (.pointer (some ⟨ga, 0, none⟩)) := hEA.dst 18 _ 39 rfl rfl; simp [execOp, e39, go_sem]
        · refine ob_val (want_is hEA (g := 17) (x := true) (b := true) rfl rfl rfl rfl) (by kernel_rfl) (fun ph w' hp hpm hw => ?_)
          have e40 : Fr.tmps[40]? = some (.pointer (some ⟨ga, 0, none⟩)) := hEA.dst 19 _ 40 rfl rfl; simp [execOp, e40, go_sem]
        · refine ob_val (want_is hEA (g := 17) (x := true) (b := true) rfl rfl rfl rfl) (by kernel_rfl) (fun ph w' hp hpm hw => ?_)
          have hc0 := (hw.cell (p := ⟨ga, 1, none⟩) hga).trans a1
          have e41 : Fr.tmps[41]? = some (.pointer (some ⟨ga, 1, none⟩)) := hEA.dst 20 _ 41 rfl rfl; simp [execOp, e41, hc0, go_sem]
        · exact ob_move _ rfl (want_is hEA (g := 17) (x := true) (b := true) rfl rfl rfl rfl) (by kernel_rfl) (eval_dst hEA (j := 21) rfl rfl)
        · exact ob_skip (want_is hEA (g := 22) (x := true) (b := false) rfl rfl rfl rfl) (by kernel_rfl) rfl
        · exact ob_skip (want_is hEA (g := 22) (x := true) (b := false) rfl rfl rfl rfl) (by kernel_rfl) rfl
        · exact ob_skip (want_is hEA (g := 22) (x := true) (b := false) rfl rfl rfl rfl) (by kernel_rfl) rfl
        · exact ob_skip (want_is hEA (g := 22) (x := true) (b := false) rfl rfl rfl rfl) (by kernel_rfl) rfl
        · exact ob_skip (want_is hEA (g := 22) (x := true) (b := false) rfl rfl rfl rfl) (by kernel_rfl) rfl
        · exact ob_skip (want_is hEA (g := 22) (x := true) (b := false) rfl rfl rfl rfl) (by kernel_rfl) rfl
        · exact ob_skip (want_is hEA (g := 22) (x := true) (b := false) rfl rfl rfl rfl) (by kernel_rfl) rfl
        · exact ob_skip (want_is hEA (g := 22) (x := true) (b := false) rfl rfl rfl rfl) (by kernel_rfl) rfl
        · exact ob_skip (want_is hEA (g := 22) (x := true) (b := false) rfl rfl rfl rfl) (by kernel_rfl) rfl
        · exact ob_skip (want_is hEA (g := 22) (x := true) (b := false) rfl rfl rfl rfl) (by kernel_rfl) rfl
        · exact ob_skip (want_undef hEA (g := 32) rfl rfl rfl rfl) (by kernel_rfl) rfl
        · exact ob_skip (want_undef hEA (g := 32) rfl rfl rfl rfl) (by kernel_rfl) rfl
        · exact ob_skip (want_is hEA (g := 22) (x := true) (b := false) rfl rfl rfl rfl) (by kernel_rfl) rfl
        · exact ob_skip (want_is hEA (g := 22) (x := true) (b := false) rfl rfl rfl rfl) (by kernel_rfl) rfl
        · exact ob_skip (want_undef hEA (g := 36) rfl rfl rfl rfl) (by kernel_rfl) rfl
        · exact ob_skip (want_undef hEA (g := 36) rfl rfl rfl rfl) (by kernel_rfl) rfl
        · exact ob_skip (want_undef hEA (g := 36) rfl rfl rfl rfl) (by kernel_rfl) rfl
        · exact ob_skip (want_undef hEA (g := 36) rfl rfl rfl rfl) (by kernel_rfl) rfl
        · exact ob_skip (want_undef hEA (g := 36) rfl rfl rfl rfl) (by kernel_rfl) rfl
        · exact ob_skip (want_undef hEA (g := 36) rfl rfl rfl rfl) (by kernel_rfl) rfl
        · exact ob_skip (want_undef hEA (g := 36) rfl rfl rfl rfl) (by kernel_rfl) rfl
        · exact ob_skip (want_undef hEA (g := 36) rfl rfl rfl rfl) (by kernel_rfl) rfl
        · exact ob_skip (want_undef hEA (g := 36) rfl rfl rfl rfl) (by kernel_rfl) rfl
        · exact ob_skip (want_undef hEA (g := 36) rfl rfl rfl rfl) (by kernel_rfl) rfl
        · exact ob_skip (want_undef hEA (g := 36) rfl rfl rfl rfl) (by kernel_rfl) rfl
        · exact ob_skip (want_undef hEA (g := 36) rfl rfl rfl rfl) (by kernel_rfl) rfl
        · exact ob_skip (want_undef hEA (g := 36) rfl rfl rfl rfl) (by kernel_rfl) rfl
        · exact ob_skip (want_is hEA (g := 22) (x := true) (b := false) rfl rfl rfl rfl) (by kernel_rfl) rfl
        · refine ob_val (want_is hEA (g := 17) (x := true) (b := true) rfl rfl rfl rfl) (by kernel_rfl) (fun ph w' hp hpm hw => ?_)
          have e43 : Fr.tmps[43]? = some (.bool true) := hEA.dst 22 _ 43 rfl rfl; have e71 : Fr.tmps[71]? = some (undef) := hEA.dst 50 _ 71 rfl rfl; simp [execOp, e43, e71, go_sem]
        · refine ob_val (want_none rfl) (by kernel_rfl) (fun ph w' hp hpm hw => ?_)
          have e38 : Fr.tmps[38]? = some (.bool true) := hEA.dst 17 _ 38 rfl rfl; have e72 : Fr.tmps[72]? = some (.bool true) := hEA.dst 51 _ 72 rfl rfl; simp [execOp, e38, e72, go_sem]
        · refine ob_val (want_none rfl) (by kernel_rfl) (fun ph w' hp hpm hw => ?_)
          have e73 : Fr.tmps[73]? = some (.bool true) := hEA.dst 52 _ 73 rfl rfl; simp [execOp, e73, go_sem]
      · intro w' hw
        simp only [laid, Act.put, List.setIfInBounds_toArray, List.set_cons_succ, List.set_cons_zero, List.getD_cons_succ, List.getD_cons_zero, Nat.zero_add, Nat.reduceAdd]
        go_wp2
        go_ret
        exact ⟨rfl, B.trans (hw.mono B.size)⟩
    | some r =>
      rw [hst] at hA2 hB
      have a1 := hA2.1.g
      have b1 := hB.1.g
      have a0 := hA2.1.s
      have b0 := hB.1.s
      obtain ⟨hinv, hok⟩ := tree_inv hst
      have HOK := Lib.hid hok
      clear hA2 hB hst hok
      generalize treeOf (some l) = xs at *
      have hle : l = layTr xs ++ r := by simpa using hinv
      have hll : l.length = (layTr xs).length + r.length := by rw [hle, List.length_append]
      obtain ⟨k, hk⟩ : ∃ k, (layTr xs).length = k := ⟨_, rfl⟩
      have HC : Hid (∀ wx, (Instr.slice 9 (.string (tx l)) none (some (.int .i64 (k : Int))) none).run Try.prog wx = .ok (.string (tx (layTr xs))) wx) := Lib.hid fun wx => by
        have := front_text l k (by omega) wx
        rw [show l.take k = layTr xs by rw [hle, ← hk, List.take_left]] at this
        exact this
      have hsub : IntKind.i64.wrap ((l.length : Int) - (r.length : Int)) = (k : Int) := by rw [IntKind.wrap_i64]; omega
      clear hinv hle hll hk
      go_wp2_with fail
      refine wp_region_plan (fun i => ([.bool true, .bool true, vx, vy, .bool true, .bool true, .bool true, .pointer (some ⟨ga, 0, none⟩), .pointer (some ⟨ga, 0, none⟩), .pointer (some ⟨ga, 1, none⟩), .bool false, .pointer (some ⟨gb, 0, none⟩), .pointer (some ⟨gb, 0, none⟩), .pointer (some ⟨gb, 1, none⟩), .bool false, .bool true, .bool true, .bool true, .pointer (some ⟨ga, 0, none⟩), .pointer (some ⟨ga, 0, none⟩), .pointer (some ⟨ga, 1, none⟩), .bool false, .bool false, .pointer (some ⟨ga, 0, none⟩), .pointer (some ⟨ga, 0, none⟩), .pointer (some ⟨ga, 0, none⟩), .string (tx r), .pointer (some ⟨gb, 0, none⟩), .pointer (some ⟨gb, 0, none⟩), .pointer (some ⟨gb, 0, none⟩), .string (tx r), .bool true, .bool true, vx, .bool true, .bool true, .bool true, .string (tx l), .string (tx l), .int .i64 (l.length : Int), .pointer (some ⟨ga, 0, none⟩), .pointer (some ⟨ga, 0, none⟩), .pointer (some ⟨ga, 0, none⟩), .string (tx r), .int .i64 (r.length : Int), .int .i64 (k : Int), .string (tx (layTr xs)), vx, .string (tx (layTr xs)), .bool true, .bool true, .bool true, .bool true, .bool true] : List Value).getD i undef) [0, 4, 34, 48] [0, 1, 1, 1, 1, 2, 2, 2, 2, 2, 2, 2, 2, 2, 2, 2, 2, 2, 2, 2, 2, 2, 2, 2, 2, 2, 2, 2, 2, 2, 2, 2, 2, 2, 2, 3, 3, 3, 3, 3, 3, 3, 3, 3, 3, 3, 3, 3, 3, 4, 4, 4, 4, 4] (fun _ w' => Below W0.heap.size W0 w') (by kernel_rfl) (by kernel_rfl) (⟨rfl, rfl, rfl, Nat.le_refl _, fun _ _ => rfl⟩) ?_ ?_
      · refine Obs_of_ends (by kernel_rfl) ?_
        intro Fr hEA
        refine ⟨?_, ?_, ?_, ?_, ?_, ?_, ?_, ?_, ?_, ?_, ?_, ?_, ?_, ?_, ?_, ?_, ?_, ?_, ?_, ?_, ?_, ?_, ?_, ?_, ?_, ?_, ?_, ?_, ?_, ?_, ?_, ?_, ?_, ?_, ?_, ?_, ?_, ?_, ?_, ?_, ?_, ?_, ?_, ?_, ?_, ?_, ?_, ?_, ?_, ?_, ?_, ?_, ?_, ?_, trivial⟩
        · refine ob_call (q := 0) (f := 8) (args := #[]) (want_none rfl) (by kernel_rfl) (fun w' => by simp [go_sem]) ?_
          intro w' hw
          refine (Calls.mono (R := fun E W' => E = .returned (.bool true) ∧ Below w'.heap.size w' W') (awake9_any w') ?_)
          rintro e w2 ⟨rfl, hb⟩
          exact ⟨rfl, hw.trans (hb.mono hw.size)⟩
        · exact ob_move _ rfl (want_none rfl) (by kernel_rfl) (eval_dst hEA (j := 0) rfl rfl)
        · exact ob_move _ rfl (want_is hEA (g := 1) (x := true) (b := true) rfl rfl rfl rfl) (by kernel_rfl) (eval_out hEA (d := 5) (by kernel_rfl))
        · exact ob_move _ rfl (want_is hEA (g := 1) (x := true) (b := true) rfl rfl rfl rfl) (by kernel_rfl) (eval_out hEA (d := 6) (by kernel_rfl))
        · refine ob_call (q := 1) (f := 18) (args := #[vx, vy]) (want_is hEA (g := 1) (x := true) (b := true) rfl rfl rfl rfl) (by kernel_rfl) (fun w' => by have e23 : Fr.tmps[23]? = some (vx) := hEA.dst 2 _ 23 rfl rfl; have e24 : Fr.tmps[24]? = some (vy) := hEA.dst 3 _ 24 rfl rfl; simp [e23, e24, go_sem]) ?_
          intro w' hw
          refine (Calls.mono (R := fun E W' => E = .returned (.bool true) ∧ Below w'.heap.size w' W') (by have := sameS_any _ _ xs xs w' (keeps_spots _ _ _ _ _ _ HX.out hw hw.size) (keeps_spots _ _ _ _ _ _ HY.out hw hw.size) hn; rwa [show decide (xs = xs) = true from decide_eq_true rfl] at this) ?_)
          rintro e w2 ⟨rfl, hb⟩
          exact ⟨rfl, hw.trans (hb.mono hw.size)⟩
        · refine ob_val (want_none rfl) (by kernel_rfl) (fun ph w' hp hpm hw => ?_)
          have e22 : Fr.tmps[22]? = some (.bool true) := hEA.dst 1 _ 22 rfl rfl; have e25 : Fr.tmps[25]? = some (.bool true) := hEA.dst 4 _ 25 rfl rfl; simp [execOp, e22, e25, go_sem]
        · exact ob_move _ rfl (want_none rfl) (by kernel_rfl) (eval_dst hEA (j := 5) rfl rfl)
        · exact ob_move _ rfl (want_is hEA (g := 6) (x := true) (b := true) rfl rfl rfl rfl) (by kernel_rfl) (eval_out hEA (d := 3) (by kernel_rfl))
        · refine ob_val (want_is hEA (g := 6) (x := true) (b := true) rfl rfl rfl rfl) (by kernel_rfl) (fun ph w' hp hpm hw => ?_)
          have e28 : Fr.tmps[28]? = some (.pointer (some ⟨ga, 0, none⟩)) := hEA.dst 7 _ 28 rfl rfl; simp [execOp, e28, go_sem]
        · refine ob_val (want_is hEA (g := 6) (x := true) (b := true) rfl rfl rfl rfl) (by kernel_rfl) (fun ph w' hp hpm hw => ?_)
          have e29 : Fr.tmps[29]? = some (.pointer (some ⟨ga, 0, none⟩)) := hEA.dst 8 _ 29 rfl rfl; simp [execOp, e29, go_sem]
        · refine ob_val (want_is hEA (g := 6) (x := true) (b := true) rfl rfl rfl rfl) (by kernel_rfl) (fun ph w' hp hpm hw => ?_)
          have hc0 := (hw.cell (p := ⟨ga, 1, none⟩) hga).trans a1
          have e30 : Fr.tmps[30]? = some (.pointer (some ⟨ga, 1, none⟩)) := hEA.dst 9 _ 30 rfl rfl; simp [execOp, e30, hc0, go_sem]
        · exact ob_move _ rfl (want_is hEA (g := 6) (x := true) (b := true) rfl rfl rfl rfl) (by kernel_rfl) (eval_out hEA (d := 4) (by kernel_rfl))
        · refine ob_val (want_is hEA (g := 6) (x := true) (b := true) rfl rfl rfl rfl) (by kernel_rfl) (fun ph w' hp hpm hw => ?_)
          have e32 : Fr.tmps[32]? = some (.pointer (some ⟨gb, 0, none⟩)) := hEA.dst 11 _ 32 rfl rfl; simp [execOp, e32, go_sem]
        · refine ob_val (want_is hEA (g := 6) (x := true) (b := true) rfl rfl rfl rfl) (by kernel_rfl) (fun ph w' hp hpm hw => ?_)
          have e33 : Fr.tmps[33]? = some (.pointer (some ⟨gb, 0, none⟩)) := hEA.dst 12 _ 33 rfl rfl; simp [execOp, e33, go_sem]
        · refine ob_val (want_is hEA (g := 6) (x := true) (b := true) rfl rfl rfl rfl) (by kernel_rfl) (fun ph w' hp hpm hw => ?_)
          have hc0 := (hw.cell (p := ⟨gb, 1, none⟩) hgb).trans b1
          have e34 : Fr.tmps[34]? = some (.pointer (some ⟨gb, 1, none⟩)) := hEA.dst 13 _ 34 rfl rfl; simp [execOp, e34, hc0, go_sem]
        · refine ob_val (want_is hEA (g := 6) (x := true) (b := true) rfl rfl rfl rfl) (by kernel_rfl) (fun ph w' hp hpm hw => ?_)
          have e31 : Fr.tmps[31]? = some (.bool false) := hEA.dst 10 _ 31 rfl rfl; have e35 : Fr.tmps[35]? = some (.bool false) := hEA.dst 14 _ 35 rfl rfl; simp [execOp, e31, e35, go_sem]
        · refine ob_val (want_none rfl) (by kernel_rfl) (fun ph w' hp hpm hw => ?_)
          have e27 : Fr.tmps[27]? = some (.bool true) := hEA.dst 6 _ 27 rfl rfl; have e36 : Fr.tmps[36]? = some (.bool true) := hEA.dst 15 _ 36 rfl rfl; simp [execOp, e27, e36, go_sem]
        · exact ob_move _ rfl (want_none rfl) (by kernel_rfl) (eval_dst hEA (j := 16) rfl rfl)
        · exact ob_move _ rfl (want_is hEA (g := 17) (x := true) (b := true) rfl rfl rfl rfl) (by kernel_rfl) (eval_out hEA (d := 3) (by kernel_rfl))
        · refine ob_val (want_is hEA (g := 17) (x := true) (b := true) rfl rfl rfl rfl) (by kernel_rfl) (fun ph w' hp hpm hw => ?_)
          have e39 : Fr.tmps[39]? = some (.pointer (some ⟨ga, 0, none⟩)) := hEA.dst 18 _ 39 rfl rfl; simp [execOp, e39, go_sem]
        · refine ob_val (want_is hEA (g := 17) (x := true) (b := true) rfl rfl rfl rfl) (by kernel_rfl) (fun ph w' hp hpm hw => ?_)
          have e40 : Fr.tmps[40]? = some (.pointer (some ⟨ga, 0, none⟩)) := hEA.dst 19 _ 40 rfl rfl; simp [execOp, e40, go_sem]
        · refine ob_val (want_is hEA (g := 17) (x := true) (b := true) rfl rfl rfl rfl) (by kernel_rfl) (fun ph w' hp hpm hw => ?_)
          have hc0 := (hw.cell (p := ⟨ga, 1, none⟩) hga).trans a1
          have e41 : Fr.tmps[41]? = some (.pointer (some ⟨ga, 1, none⟩)) := hEA.dst 20 _ 41 rfl rfl; simp [execOp, e41, hc0, go_sem]
        · exact ob_move _ rfl (want_is hEA (g := 17) (x := true) (b := true) rfl rfl rfl rfl) (by kernel_rfl) (eval_dst hEA (j := 21) rfl rfl)
        · exact ob_move _ rfl (want_is hEA (g := 22) (x := false) (b := false) rfl rfl rfl rfl) (by kernel_rfl) (eval_out hEA (d := 3) (by kernel_rfl))
        · refine ob_val (want_is hEA (g := 22) (x := false) (b := false) rfl rfl rfl rfl) (by kernel_rfl) (fun ph w' hp hpm hw => ?_)
          have e44 : Fr.tmps[44]? = some (.pointer (some ⟨ga, 0, none⟩)) := hEA.dst 23 _ 44 rfl rfl; simp [execOp, e44, go_sem]
        · refine ob_val (want_is hEA (g := 22) (x := false) (b := false) rfl rfl rfl rfl) (by kernel_rfl) (fun ph w' hp hpm hw => ?_)
          have e45 : Fr.tmps[45]? = some (.pointer (some ⟨ga, 0, none⟩)) := hEA.dst 24 _ 45 rfl rfl; simp [execOp, e45, go_sem]
        · refine ob_val (want_is hEA (g := 22) (x := false) (b := false) rfl rfl rfl rfl) (by kernel_rfl) (fun ph w' hp hpm hw => ?_)
          have hc0 := (hw.cell (p := ⟨ga, 0, none⟩) hga).trans a0
          have e46 : Fr.tmps[46]? = some (.pointer (some ⟨ga, 0, none⟩)) := hEA.dst 25 _ 46 rfl rfl; simp [execOp, e46, hc0, go_sem]
        · exact ob_move _ rfl (want_is hEA (g := 22) (x := false) (b := false) rfl rfl rfl rfl) (by kernel_rfl) (eval_out hEA (d := 4) (by kernel_rfl))
        · refine ob_val (want_is hEA (g := 22) (x := false) (b := false) rfl rfl rfl rfl) (by kernel_rfl) (fun ph w' hp hpm hw => ?_)
          have e48 : Fr.tmps[48]? = some (.pointer (some ⟨gb, 0, none⟩)) := hEA.dst 27 _ 48 rfl rfl; simp [execOp, e48, go_sem]
        · refine ob_val (want_is hEA (g := 22) (x := false) (b := false) rfl rfl rfl rfl) (by kernel_rfl) (fun ph w' hp hpm hw => ?_)
          have e49 : Fr.tmps[49]? = some (.pointer (some ⟨gb, 0, none⟩)) := hEA.dst 28 _ 49 rfl rfl; simp [execOp, e49, go_sem]
        · refine ob_val (want_is hEA (g := 22) (x := false) (b := false) rfl rfl rfl rfl) (by kernel_rfl) (fun ph w' hp hpm hw => ?_)
          have hc0 := (hw.cell (p := ⟨gb, 0, none⟩) hgb).trans b0
          have e50 : Fr.tmps[50]? = some (.pointer (some ⟨gb, 0, none⟩)) := hEA.dst 29 _ 50 rfl rfl; simp [execOp, e50, hc0, go_sem]
        · refine ob_val (want_is hEA (g := 22) (x := false) (b := false) rfl rfl rfl rfl) (by kernel_rfl) (fun ph w' hp hpm hw => ?_)
          have e47 : Fr.tmps[47]? = some (.string (tx r)) := hEA.dst 26 _ 47 rfl rfl; have e51 : Fr.tmps[51]? = some (.string (tx r)) := hEA.dst 30 _ 51 rfl rfl; simp [execOp, e47, e51, go_sem]
        · exact ob_move _ rfl (want_is hEA (g := 22) (x := false) (b := false) rfl rfl rfl rfl) (by kernel_rfl) (eval_dst hEA (j := 31) rfl rfl)
        · exact ob_move _ rfl (want_is hEA (g := 32) (x := true) (b := true) rfl rfl rfl rfl) (by kernel_rfl) (eval_out hEA (d := 5) (by kernel_rfl))
        · refine ob_call (q := 2) (f := 9) (args := #[vx]) (want_is hEA (g := 32) (x := true) (b := true) rfl rfl rfl rfl) (by kernel_rfl) (fun w' => by have e54 : Fr.tmps[54]? = some (vx) := hEA.dst 33 _ 54 rfl rfl; simp [e54, go_sem]) ?_
          intro w' hw
          refine (Calls.mono (R := fun E W' => E = .returned (.bool true) ∧ Below w'.heap.size w' W') (by have := right_any _ xs w' (keeps_spots _ _ _ _ _ _ HX.out hw hw.size) hn; rwa [HOK.out] at this) ?_)
          rintro e w2 ⟨rfl, hb⟩
          exact ⟨rfl, hw.trans (hb.mono hw.size)⟩
        · refine ob_val (want_is hEA (g := 22) (x := false) (b := false) rfl rfl rfl rfl) (by kernel_rfl) (fun ph w' hp hpm hw => ?_)
          have e53 : Fr.tmps[53]? = some (.bool true) := hEA.dst 32 _ 53 rfl rfl; have e55 : Fr.tmps[55]? = some (.bool true) := hEA.dst 34 _ 55 rfl rfl; simp [execOp, e53, e55, go_sem]
        · exact ob_move _ rfl (want_is hEA (g := 22) (x := false) (b := false) rfl rfl rfl rfl) (by kernel_rfl) (eval_dst hEA (j := 35) rfl rfl)
        · exact ob_move _ rfl (want_is hEA (g := 36) (x := true) (b := true) rfl rfl rfl rfl) (by kernel_rfl) (eval_out hEA (d := 0) (by kernel_rfl))
        · exact ob_move _ rfl (want_is hEA (g := 36) (x := true) (b := true) rfl rfl rfl rfl) (by kernel_rfl) (eval_out hEA (d := 0) (by kernel_rfl))
        · refine ob_val (want_is hEA (g := 36) (x := true) (b := true) rfl rfl rfl rfl) (by kernel_rfl) (fun ph w' hp hpm hw => ?_)
          have e59 : Fr.tmps[59]? = some (.string (tx l)) := hEA.dst 38 _ 59 rfl rfl; simp [e59, tx_size l, go_sem]
        · exact ob_move _ rfl (want_is hEA (g := 36) (x := true) (b := true) rfl rfl rfl rfl) (by kernel_rfl) (eval_out hEA (d := 3) (by kernel_rfl))
        · refine ob_val (want_is hEA (g := 36) (x := true) (b := true) rfl rfl rfl rfl) (by kernel_rfl) (fun ph w' hp hpm hw => ?_)
          have e61 : Fr.tmps[61]? = some (.pointer (some ⟨ga, 0, none⟩)) := hEA.dst 40 _ 61 rfl rfl; simp [execOp, e61, go_sem]
        · refine ob_val (want_is hEA (g := 36) (x := true) (b := true) rfl rfl rfl rfl) (by kernel_rfl) (fun ph w' hp hpm hw => ?_)
          have e62 : Fr.tmps[62]? = some (.pointer (some ⟨ga, 0, none⟩)) := hEA.dst 41 _ 62 rfl rfl; simp [execOp, e62, go_sem]
        · refine ob_val (want_is hEA (g := 36) (x := true) (b := true) rfl rfl rfl rfl) (by kernel_rfl) (fun ph w' hp hpm hw => ?_)
          have hc0 := (hw.cell (p := ⟨ga, 0, none⟩) hga).trans a0
          have e63 : Fr.tmps[63]? = some (.pointer (some ⟨ga, 0, none⟩)) := hEA.dst 42 _ 63 rfl rfl; simp [execOp, e63, hc0, go_sem]
        · refine ob_val (want_is hEA (g := 36) (x := true) (b := true) rfl rfl rfl rfl) (by kernel_rfl) (fun ph w' hp hpm hw => ?_)
          have e64 : Fr.tmps[64]? = some (.string (tx r)) := hEA.dst 43 _ 64 rfl rfl; simp [e64, tx_size r, go_sem]
        · refine ob_val (want_is hEA (g := 36) (x := true) (b := true) rfl rfl rfl rfl) (by kernel_rfl) (fun ph w' hp hpm hw => ?_)
          have e60 : Fr.tmps[60]? = some (.int .i64 (l.length : Int)) := hEA.dst 39 _ 60 rfl rfl; have e65 : Fr.tmps[65]? = some (.int .i64 (r.length : Int)) := hEA.dst 44 _ 65 rfl rfl; simp [execOp, e60, e65, hsub, go_sem]
        · refine ob_val (want_is hEA (g := 36) (x := true) (b := true) rfl rfl rfl rfl) (by kernel_rfl) (fun ph w' hp hpm hw => ?_)
          have e58 : Fr.tmps[58]? = some (.string (tx l)) := hEA.dst 37 _ 58 rfl rfl; have e66 : Fr.tmps[66]? = some (.int .i64 (k : Int)) := hEA.dst 45 _ 66 rfl rfl; simp [execOp, e58, e66, HC.out, go_sem]
        · exact ob_move _ rfl (want_is hEA (g := 36) (x := true) (b := true) rfl rfl rfl rfl) (by kernel_rfl) (eval_out hEA (d := 5) (by kernel_rfl))
        · refine ob_call (q := 3) (f := 21) (args := #[vx]) (want_is hEA (g := 36) (x := true) (b := true) rfl rfl rfl rfl) (by kernel_rfl) (fun w' => by have e68 : Fr.tmps[68]? = some (vx) := hEA.dst 47 _ 68 rfl rfl; simp [e68, go_sem]) ?_
          intro w' hw
          refine (Calls.mono (R := fun E W' => E = .returned (.string (tx (layTr xs))) ∧ Below w'.heap.size w' W') (printT_any _ xs w' (keeps_spots _ _ _ _ _ _ HX.out hw hw.size) hn) ?_)
          rintro e w2 ⟨rfl, hb⟩
          exact ⟨rfl, hw.trans (hb.mono hw.size)⟩
        · refine ob_val (want_is hEA (g := 36) (x := true) (b := true) rfl rfl rfl rfl) (by kernel_rfl) (fun ph w' hp hpm hw => ?_)
          have e67 : Fr.tmps[67]? = some (.string (tx (layTr xs))) := hEA.dst 46 _ 67 rfl rfl; have e69 : Fr.tmps[69]? = some (.string (tx (layTr xs))) := hEA.dst 48 _ 69 rfl rfl; simp [execOp, e67, e69, go_sem]
        · refine ob_val (want_is hEA (g := 22) (x := false) (b := false) rfl rfl rfl rfl) (by kernel_rfl) (fun ph w' hp hpm hw => ?_)
          have e57 : Fr.tmps[57]? = some (.bool true) := hEA.dst 36 _ 57 rfl rfl; have e70 : Fr.tmps[70]? = some (.bool true) := hEA.dst 49 _ 70 rfl rfl; simp [execOp, e57, e70, go_sem]
        · refine ob_val (want_is hEA (g := 17) (x := true) (b := true) rfl rfl rfl rfl) (by kernel_rfl) (fun ph w' hp hpm hw => ?_)
          have e43 : Fr.tmps[43]? = some (.bool false) := hEA.dst 22 _ 43 rfl rfl; have e71 : Fr.tmps[71]? = some (.bool true) := hEA.dst 50 _ 71 rfl rfl; simp [execOp, e43, e71, go_sem]
        · refine ob_val (want_none rfl) (by kernel_rfl) (fun ph w' hp hpm hw => ?_)
          have e38 : Fr.tmps[38]? = some (.bool true) := hEA.dst 17 _ 38 rfl rfl; have e72 : Fr.tmps[72]? = some (.bool true) := hEA.dst 51 _ 72 rfl rfl; simp [execOp, e38, e72, go_sem]
        · refine ob_val (want_none rfl) (by kernel_rfl) (fun ph w' hp hpm hw => ?_)
          have e73 : Fr.tmps[73]? = some (.bool true) := hEA.dst 52 _ 73 rfl rfl; simp [execOp, e73, go_sem]
      · intro w' hw
        simp only [laid, Act.put, List.setIfInBounds_toArray, List.set_cons_succ, List.set_cons_zero, List.getD_cons_succ, List.getD_cons_zero, Nat.zero_add, Nat.reduceAdd]
        go_wp2
        go_ret
        exact ⟨rfl, B.trans (hw.mono B.size)⟩

end Go.Proofs.Ytgnebmandifhiaa
