/- lodgelaw08.MemberTells answers true, whatever members and whatever id come in, and leaves memory below as it was. No condition. -/
import Derived.Test.YtbjefnboppfnaaaAwake8
namespace Go.Proofs.Ytbjefnboppfnaaa
open Go.RowKit
set_option linter.unusedVariables false

theorem new2 (w : World) (a b : List Value) (t u : TypeId) : ∃ W, (w.alloc (.cells a.toArray t)).alloc (.cells b.toArray u) = W ∧ Box W w.heap.size a ∧ Box W (w.heap.size + 1) b ∧ Below w.heap.size w W := by
  have h1 := Box.new w a t
  have h2 := Box.new (w.alloc (.cells a.toArray t)) b u
  have e1 : (w.alloc (.cells a.toArray t)).heap.size = w.heap.size + 1 := by simp
  have b1 := below_new (w.alloc (.cells a.toArray t)) (.cells b.toArray u)
  rw [e1] at h2 b1
  exact ⟨_, rfl, h1.below b1 (by omega), h2, below_new2 w _ _⟩

set_option maxRecDepth 100000 in
set_option maxHeartbeats 8000000 in
theorem memberTells_big (A : Option Addr) (len cap : Nat) (a b c d u : Int) (w : World) (h : ¬ len ≤ 100) :
    Calls Try.prog 3 #[.slice A len cap, vM a b, vV c d u] w fun e w' => e = .returned (.bool true) ∧ Below w.heap.size w w' := by
  have d0 : decide (100 < (len : Int)) = true := decide_eq_true (by omega)
  go_enter Try.func3, Try.ntmps3
  go_wp2_with fail
  obtain ⟨W0, hW0, bm, bv, B⟩ := new2 w [.int .i64 a, .int .i64 b] [.int .i64 c, .int .i64 d, .int .i64 u] 24 26
  rw [hW0]
  refine (awake8_any _).mono ?_
  rintro e W1 ⟨rfl, hb⟩
  go_wp2
  go_ret
  exact ⟨rfl, B.trans (hb.mono B.size)⟩

set_option maxRecDepth 100000 in
set_option maxHeartbeats 8000000 in
theorem memberTells_in (A : Option Addr) (cap : Nat) (xs : List (Int × Int)) (a b c d u : Int) (w : World) (hx : Mems w.heap.size w xs [.slice A xs.length cap]) (h1 : xs.length ≤ 100) :
    Calls Try.prog 3 #[.slice A xs.length cap, vM a b, vV c d u] w fun e w' => e = .returned (.bool true) ∧ Below w.heap.size w w' := by
  have d0 : decide (100 < (xs.length : Int)) = false := decide_eq_false (by omega)
  obtain ⟨A', cap', he, hlc, hcm, hp⟩ := mems_at hx
  injection he with e1 e2 e3
  subst e1 e3
  have HP := Lib.hid hp
  have hcm2 : cap ≤ 9223372036854775807 := Nat.le_trans hcm (by decide)
  clear hp hcm e2
  go_enter Try.func3, Try.ntmps3
  go_wp2_with fail
  obtain ⟨W0, hW0, bm, bv, B⟩ := new2 w [.int .i64 a, .int .i64 b] [.int .i64 c, .int .i64 d, .int .i64 u] 24 26
  rw [hW0]
  clear hW0
  go_loopw [7] (fun i wr => ∃ k : Nat, k ≤ xs.length ∧ i = .int .i64 k ∧ Box wr w.heap.size [.int .i64 a, .int .i64 b] ∧ Box wr (w.heap.size + 1) [.int .i64 c, .int .i64 d, .int .i64 u] ∧ Below w.heap.size w wr)
    (fun i _ => xs.length - (intOf i).toNat)
  case atStart => exact ⟨0, Nat.zero_le _, rfl, bm, bv, B⟩
  case round =>
    obtain ⟨k, hk, rfl, bm, bv, B⟩ := hrel
    by_cases hlt : k < xs.length
    · have hd : decide (k < xs.length) = true := by simpa using hlt
      have hi : (k : Int) < (xs.length : Int) := by omega
      have hge : (0 : Int) ≤ (k : Int) := by omega
      obtain ⟨g, off, rfl, hbn, hc0, hc1⟩ := HP.out k hlt
      have hk0 := (B.cell (p := ⟨g, off + k * 2, none⟩) hbn).trans hc0
      have hk1 := (B.cell (p := ⟨g, off + k * 2 + 1, none⟩) hbn).trans hc1
      obtain ⟨⟨x, y⟩, hxy⟩ : ∃ p : Int × Int, xs[k] = p := ⟨_, rfl⟩
      rw [hxy] at hk0 hk1
      have hgl : g < wr.heap.size := by have := B.size; omega
      go_wp2_with fail
      refine wp_region_plan (fun i => ([.slice (some ⟨g, off, none⟩) xs.length cap, .int .i64 (k : Int), .pointer (some ⟨g, off + k * 2, none⟩), .agg #[.int .i64 x, .int .i64 y], .agg #[.int .i64 a, .int .i64 b], .bool (lessM x y a b), .slice (some ⟨g, off, none⟩) xs.length cap, .int .i64 (k : Int), .pointer (some ⟨g, off + k * 2, none⟩), .agg #[.int .i64 x, .int .i64 y], .agg #[.int .i64 a, .int .i64 b], .bool (lessM x y a b), .bool false] : List Value).getD i undef) [5, 11] [0, 0, 0, 0, 0, 0, 0, 0, 0, 0, 0, 1, 2] (fun _ w' => Below wr.heap.size wr w') (by kernel_rfl) (by kernel_rfl) (⟨rfl, rfl, rfl, Nat.le_refl _, fun _ _ => rfl⟩) ?_ ?_
      · refine Obs_of_ends (by kernel_rfl) ?_
        intro Fr hEA
        refine ⟨?_, ?_, ?_, ?_, ?_, ?_, ?_, ?_, ?_, ?_, ?_, ?_, ?_, trivial⟩
        · exact ob_move _ rfl (want_none rfl) (by kernel_rfl) (eval_out hEA (d := 0) (by kernel_rfl))
        · exact ob_move _ rfl (want_none rfl) (by kernel_rfl) (eval_out hEA (d := 7) (by kernel_rfl))
        · refine ob_val (want_none rfl) (by kernel_rfl) (fun ph w' hp hpm hw => ?_)
          have e18 : Fr.tmps[18]? = some (.slice (some ⟨g, off, none⟩) xs.length cap) := hEA.dst 0 _ 18 rfl rfl; have e19 : Fr.tmps[19]? = some (.int .i64 (k : Int)) := hEA.dst 1 _ 19 rfl rfl; simp [execOp, e18, e19, hi, hge, go_sem]
        · refine ob_val (want_none rfl) (by kernel_rfl) (fun ph w' hp hpm hw => ?_)
          have hc0 := (hw.cell (p := ⟨g, off + k * 2, none⟩) hgl).trans hk0
          have hc1 := (hw.cell (p := ⟨g, off + k * 2 + 1, none⟩) hgl).trans hk1
          have e20 : Fr.tmps[20]? = some (.pointer (some ⟨g, off + k * 2, none⟩)) := hEA.dst 2 _ 20 rfl rfl; simp [execOp, e20, hc0, hc1, go_sem]
        · refine ob_val (want_none rfl) (by kernel_rfl) (fun ph w' hp hpm hw => ?_)
          have hc0 := (hw.cell (p := ⟨w.heap.size, 0, none⟩) bm.lt).trans (bm.c 0 _ rfl)
          have hc1 := (hw.cell (p := ⟨w.heap.size, 1, none⟩) bm.lt).trans (bm.c 1 _ rfl)
          have e4 : Fr.tmps[4]? = some (.pointer (some ⟨w.heap.size, 0, none⟩)) := at_out hEA (d := 4) (by kernel_rfl); simp [execOp, e4, hc0, hc1, go_sem]
        · refine ob_call (q := 0) (f := 9) (args := #[.agg #[.int .i64 x, .int .i64 y], .agg #[.int .i64 a, .int .i64 b]]) (want_none rfl) (by kernel_rfl) (fun w' => by have e21 : Fr.tmps[21]? = some (.agg #[.int .i64 x, .int .i64 y]) := hEA.dst 3 _ 21 rfl rfl; have e22 : Fr.tmps[22]? = some (.agg #[.int .i64 a, .int .i64 b]) := hEA.dst 4 _ 22 rfl rfl; simp [e21, e22, go_sem]) ?_
          intro w' hw
          refine (Calls.mono (R := fun E W' => E = .returned (.bool (lessM x y a b)) ∧ Below w'.heap.size w' W') (less_any x y a b w') ?_)
          rintro e w2 ⟨rfl, hb⟩
          exact ⟨rfl, hw.trans (hb.mono hw.size)⟩
        · exact ob_move _ rfl (want_none rfl) (by kernel_rfl) (eval_out hEA (d := 0) (by kernel_rfl))
        · exact ob_move _ rfl (want_none rfl) (by kernel_rfl) (eval_out hEA (d := 7) (by kernel_rfl))
        · refine ob_val (want_none rfl) (by kernel_rfl) (fun ph w' hp hpm hw => ?_)
          have e24 : Fr.tmps[24]? = some (.slice (some ⟨g, off, none⟩) xs.length cap) := hEA.dst 6 _ 24 rfl rfl; have e25 : Fr.tmps[25]? = some (.int .i64 (k : Int)) := hEA.dst 7 _ 25 rfl rfl; simp [execOp, e24, e25, hi, hge, go_sem]
        · refine ob_val (want_none rfl) (by kernel_rfl) (fun ph w' hp hpm hw => ?_)
          have hc0 := (hw.cell (p := ⟨g, off + k * 2, none⟩) hgl).trans hk0
          have hc1 := (hw.cell (p := ⟨g, off + k * 2 + 1, none⟩) hgl).trans hk1
          have e26 : Fr.tmps[26]? = some (.pointer (some ⟨g, off + k * 2, none⟩)) := hEA.dst 8 _ 26 rfl rfl; simp [execOp, e26, hc0, hc1, go_sem]
        · refine ob_val (want_none rfl) (by kernel_rfl) (fun ph w' hp hpm hw => ?_)
          have hc0 := (hw.cell (p := ⟨w.heap.size, 0, none⟩) bm.lt).trans (bm.c 0 _ rfl)
          have hc1 := (hw.cell (p := ⟨w.heap.size, 1, none⟩) bm.lt).trans (bm.c 1 _ rfl)
          have e4 : Fr.tmps[4]? = some (.pointer (some ⟨w.heap.size, 0, none⟩)) := at_out hEA (d := 4) (by kernel_rfl); simp [execOp, e4, hc0, hc1, go_sem]
        · refine ob_call (q := 1) (f := 10) (args := #[.agg #[.int .i64 x, .int .i64 y], .agg #[.int .i64 a, .int .i64 b]]) (want_none rfl) (by kernel_rfl) (fun w' => by have e27 : Fr.tmps[27]? = some (.agg #[.int .i64 x, .int .i64 y]) := hEA.dst 9 _ 27 rfl rfl; have e28 : Fr.tmps[28]? = some (.agg #[.int .i64 a, .int .i64 b]) := hEA.dst 10 _ 28 rfl rfl; simp [e27, e28, go_sem]) ?_
          intro w' hw
          refine (Calls.mono (R := fun E W' => E = .returned (.bool (lessM x y a b)) ∧ Below w'.heap.size w' W') (refLess_any x y a b w') ?_)
          rintro e w2 ⟨rfl, hb⟩
          exact ⟨rfl, hw.trans (hb.mono hw.size)⟩
        · refine ob_val (want_none rfl) (by kernel_rfl) (fun ph w' hp hpm hw => ?_)
          have e23 : Fr.tmps[23]? = some (.bool (lessM x y a b)) := hEA.dst 5 _ 23 rfl rfl; have e29 : Fr.tmps[29]? = some (.bool (lessM x y a b)) := hEA.dst 11 _ 29 rfl rfl; simp [execOp, e23, e29, go_sem]
      · intro w' hw
        simp only [laid, Act.put, List.setIfInBounds_toArray, List.set_cons_succ, List.set_cons_zero, List.getD_cons_succ, List.getD_cons_zero, Nat.zero_add, Nat.reduceAdd]
        go_wp2_with fail
        exact ⟨⟨k + 1, by omega, by go_num, bm.next hw, bv.next hw, B.trans (hw.mono B.size)⟩, by simp [intOf]; omega⟩
    · have hd : decide (k < xs.length) = false := by simpa using hlt
      have hM := keeps_mems _ _ _ _ _ _ hx B B.size
      go_wp2_with fail
      refine wp_region_plan (fun i => ([.bool true, .bool true, .agg #[.int .i64 a, .int .i64 b], .bool (okM a b), .agg #[.int .i64 a, .int .i64 b], .bool (okM a b), .bool true, .bool true, .bool true, .slice A xs.length cap, .agg #[.int .i64 a, .int .i64 b], .bool (decide ((a, b) ∈ xs)), .slice A xs.length cap, .agg #[.int .i64 a, .int .i64 b], .bool (decide ((a, b) ∈ xs)), .bool true, .bool true, .bool true, .agg #[.int .i64 c, .int .i64 d, .int .i64 u], .bool (okV c d u), .agg #[.int .i64 c, .int .i64 d, .int .i64 u], .bool (okV c d u), .bool true, .bool true, .bool true, .agg #[.int .i64 c, .int .i64 d, .int .i64 u], .bool (noneV c d u), .agg #[.int .i64 c, .int .i64 d, .int .i64 u], .bool (noneV c d u), .bool true, .bool true, .bool true, .agg #[.int .i64 a, .int .i64 b], .string (tx (layM a b)), .agg #[.int .i64 a, .int .i64 b], .string (tx (layM a b)), .bool true, .bool true, .bool true, .agg #[.int .i64 c, .int .i64 d, .int .i64 u], .string (tx (layV c d u)), .agg #[.int .i64 c, .int .i64 d, .int .i64 u], .string (tx (layV c d u)), .bool true, .bool true, .bool true] : List Value).getD i undef) [0, 3, 5, 11, 14, 19, 21, 26, 28, 33, 35, 40, 42] [0, 1, 1, 1, 1, 2, 3, 3, 3, 3, 3, 3, 3, 3, 4, 5, 5, 5, 5, 5, 5, 6, 7, 7, 7, 7, 7, 7, 8, 9, 9, 9, 9, 9, 9, 10, 11, 11, 11, 11, 11, 11, 12, 13, 13, 13] (fun _ w' => Below wr.heap.size wr w') (by kernel_rfl) (by kernel_rfl) (⟨rfl, rfl, rfl, Nat.le_refl _, fun _ _ => rfl⟩) ?_ ?_
      · refine Obs_of_ends (by kernel_rfl) ?_
        intro Fr hEA
        refine ⟨?_, ?_, ?_, ?_, ?_, ?_, ?_, ?_, ?_, ?_, ?_, ?_, ?_, ?_, ?_, ?_, ?_, ?_, ?_, ?_, ?_, ?_, ?_, ?_, ?_, ?_, ?_, ?_, ?_, ?_, ?_, ?_, ?_, ?_, ?_, ?_, ?_, ?_, ?_, ?_, ?_, ?_, ?_, ?_, ?_, ?_, trivial⟩
        · refine ob_call (q := 0) (f := 8) (args := #[]) (want_none rfl) (by kernel_rfl) (fun w' => by simp [go_sem]) ?_
          intro w' hw
          refine (Calls.mono (R := fun E W' => E = .returned (.bool true) ∧ Below w'.heap.size w' W') (awake8_any w') ?_)
          rintro e w2 ⟨rfl, hb⟩
          exact ⟨rfl, hw.trans (hb.mono hw.size)⟩
        · exact ob_move _ rfl (want_none rfl) (by kernel_rfl) (eval_dst hEA (j := 0) rfl rfl)
        · refine ob_val (want_is hEA (g := 1) (x := true) (b := true) rfl rfl rfl rfl) (by kernel_rfl) (fun ph w' hp hpm hw => ?_)
          have hc0 := (hw.cell (p := ⟨w.heap.size, 0, none⟩) bm.lt).trans (bm.c 0 _ rfl)
          have hc1 := (hw.cell (p := ⟨w.heap.size, 1, none⟩) bm.lt).trans (bm.c 1 _ rfl)
          have e4 : Fr.tmps[4]? = some (.pointer (some ⟨w.heap.size, 0, none⟩)) := at_out hEA (d := 4) (by kernel_rfl); simp [execOp, e4, hc0, hc1, go_sem]
        · refine ob_call (q := 1) (f := 11) (args := #[.agg #[.int .i64 a, .int .i64 b]]) (want_is hEA (g := 1) (x := true) (b := true) rfl rfl rfl rfl) (by kernel_rfl) (fun w' => by have e33 : Fr.tmps[33]? = some (.agg #[.int .i64 a, .int .i64 b]) := hEA.dst 2 _ 33 rfl rfl; simp [e33, go_sem]) ?_
          intro w' hw
          refine (Calls.mono (R := fun E W' => E = .returned (.bool (okM a b)) ∧ Below w'.heap.size w' W') (mright_any a b w') ?_)
          rintro e w2 ⟨rfl, hb⟩
          exact ⟨rfl, hw.trans (hb.mono hw.size)⟩
        · refine ob_val (want_is hEA (g := 1) (x := true) (b := true) rfl rfl rfl rfl) (by kernel_rfl) (fun ph w' hp hpm hw => ?_)
          have hc0 := (hw.cell (p := ⟨w.heap.size, 0, none⟩) bm.lt).trans (bm.c 0 _ rfl)
          have hc1 := (hw.cell (p := ⟨w.heap.size, 1, none⟩) bm.lt).trans (bm.c 1 _ rfl)
          have e4 : Fr.tmps[4]? = some (.pointer (some ⟨w.heap.size, 0, none⟩)) := at_out hEA (d := 4) (by kernel_rfl); simp [execOp, e4, hc0, hc1, go_sem]
        · refine ob_call (q := 2) (f := 12) (args := #[.agg #[.int .i64 a, .int .i64 b]]) (want_is hEA (g := 1) (x := true) (b := true) rfl rfl rfl rfl) (by kernel_rfl) (fun w' => by have e35 : Fr.tmps[35]? = some (.agg #[.int .i64 a, .int .i64 b]) := hEA.dst 4 _ 35 rfl rfl; simp [e35, go_sem]) ?_
          intro w' hw
          refine (Calls.mono (R := fun E W' => E = .returned (.bool (okM a b)) ∧ Below w'.heap.size w' W') (refMright_any a b w') ?_)
          rintro e w2 ⟨rfl, hb⟩
          exact ⟨rfl, hw.trans (hb.mono hw.size)⟩
        · refine ob_val (want_is hEA (g := 1) (x := true) (b := true) rfl rfl rfl rfl) (by kernel_rfl) (fun ph w' hp hpm hw => ?_)
          have e34 : Fr.tmps[34]? = some (.bool (okM a b)) := hEA.dst 3 _ 34 rfl rfl; have e36 : Fr.tmps[36]? = some (.bool (okM a b)) := hEA.dst 5 _ 36 rfl rfl; simp [execOp, e34, e36, go_sem]
        · refine ob_val (want_none rfl) (by kernel_rfl) (fun ph w' hp hpm hw => ?_)
          have e32 : Fr.tmps[32]? = some (.bool true) := hEA.dst 1 _ 32 rfl rfl; have e37 : Fr.tmps[37]? = some (.bool true) := hEA.dst 6 _ 37 rfl rfl; simp [execOp, e32, e37, go_sem]
        · exact ob_move _ rfl (want_none rfl) (by kernel_rfl) (eval_dst hEA (j := 7) rfl rfl)
        · exact ob_move _ rfl (want_is hEA (g := 8) (x := true) (b := true) rfl rfl rfl rfl) (by kernel_rfl) (eval_out hEA (d := 0) (by kernel_rfl))
        · refine ob_val (want_is hEA (g := 8) (x := true) (b := true) rfl rfl rfl rfl) (by kernel_rfl) (fun ph w' hp hpm hw => ?_)
          have hc0 := (hw.cell (p := ⟨w.heap.size, 0, none⟩) bm.lt).trans (bm.c 0 _ rfl)
          have hc1 := (hw.cell (p := ⟨w.heap.size, 1, none⟩) bm.lt).trans (bm.c 1 _ rfl)
          have e4 : Fr.tmps[4]? = some (.pointer (some ⟨w.heap.size, 0, none⟩)) := at_out hEA (d := 4) (by kernel_rfl); simp [execOp, e4, hc0, hc1, go_sem]
        · refine ob_call (q := 3) (f := 13) (args := #[.slice A xs.length cap, .agg #[.int .i64 a, .int .i64 b]]) (want_is hEA (g := 8) (x := true) (b := true) rfl rfl rfl rfl) (by kernel_rfl) (fun w' => by have e40 : Fr.tmps[40]? = some (.slice A xs.length cap) := hEA.dst 9 _ 40 rfl rfl; have e41 : Fr.tmps[41]? = some (.agg #[.int .i64 a, .int .i64 b]) := hEA.dst 10 _ 41 rfl rfl; simp [e40, e41, go_sem]) ?_
          intro w' hw
          refine (Calls.mono (R := fun E W' => E = .returned (.bool (decide ((a, b) ∈ xs))) ∧ Below w'.heap.size w' W') (has_any _ xs a b w' (keeps_mems _ _ _ _ _ _ hM hw hw.size)) ?_)
          rintro e w2 ⟨rfl, hb⟩
          exact ⟨rfl, hw.trans (hb.mono hw.size)⟩
        · exact ob_move _ rfl (want_is hEA (g := 8) (x := true) (b := true) rfl rfl rfl rfl) (by kernel_rfl) (eval_out hEA (d := 0) (by kernel_rfl))
        · refine ob_val (want_is hEA (g := 8) (x := true) (b := true) rfl rfl rfl rfl) (by kernel_rfl) (fun ph w' hp hpm hw => ?_)
          have hc0 := (hw.cell (p := ⟨w.heap.size, 0, none⟩) bm.lt).trans (bm.c 0 _ rfl)
          have hc1 := (hw.cell (p := ⟨w.heap.size, 1, none⟩) bm.lt).trans (bm.c 1 _ rfl)
          have e4 : Fr.tmps[4]? = some (.pointer (some ⟨w.heap.size, 0, none⟩)) := at_out hEA (d := 4) (by kernel_rfl); simp [execOp, e4, hc0, hc1, go_sem]
        · refine ob_call (q := 4) (f := 14) (args := #[.slice A xs.length cap, .agg #[.int .i64 a, .int .i64 b]]) (want_is hEA (g := 8) (x := true) (b := true) rfl rfl rfl rfl) (by kernel_rfl) (fun w' => by have e43 : Fr.tmps[43]? = some (.slice A xs.length cap) := hEA.dst 12 _ 43 rfl rfl; have e44 : Fr.tmps[44]? = some (.agg #[.int .i64 a, .int .i64 b]) := hEA.dst 13 _ 44 rfl rfl; simp [e43, e44, go_sem]) ?_
          intro w' hw
          refine (Calls.mono (R := fun E W' => E = .returned (.bool (decide ((a, b) ∈ xs))) ∧ Below w'.heap.size w' W') (refHas_any _ xs a b w' (keeps_mems _ _ _ _ _ _ hM hw hw.size)) ?_)
          rintro e w2 ⟨rfl, hb⟩
          exact ⟨rfl, hw.trans (hb.mono hw.size)⟩
        · refine ob_val (want_is hEA (g := 8) (x := true) (b := true) rfl rfl rfl rfl) (by kernel_rfl) (fun ph w' hp hpm hw => ?_)
          have e42 : Fr.tmps[42]? = some (.bool (decide ((a, b) ∈ xs))) := hEA.dst 11 _ 42 rfl rfl; have e45 : Fr.tmps[45]? = some (.bool (decide ((a, b) ∈ xs))) := hEA.dst 14 _ 45 rfl rfl; simp [execOp, e42, e45, go_sem]
        · refine ob_val (want_none rfl) (by kernel_rfl) (fun ph w' hp hpm hw => ?_)
          have e39 : Fr.tmps[39]? = some (.bool true) := hEA.dst 8 _ 39 rfl rfl; have e46 : Fr.tmps[46]? = some (.bool true) := hEA.dst 15 _ 46 rfl rfl; simp [execOp, e39, e46, go_sem]
        · exact ob_move _ rfl (want_none rfl) (by kernel_rfl) (eval_dst hEA (j := 16) rfl rfl)
        · refine ob_val (want_is hEA (g := 17) (x := true) (b := true) rfl rfl rfl rfl) (by kernel_rfl) (fun ph w' hp hpm hw => ?_)
          have hc0 := (hw.cell (p := ⟨w.heap.size + 1, 0, none⟩) bv.lt).trans (bv.c 0 _ rfl)
          have hc1 := (hw.cell (p := ⟨w.heap.size + 1, 1, none⟩) bv.lt).trans (bv.c 1 _ rfl)
          have hc2 := (hw.cell (p := ⟨w.heap.size + 1, 2, none⟩) bv.lt).trans (bv.c 2 _ rfl)
          have e5 : Fr.tmps[5]? = some (.pointer (some ⟨w.heap.size + 1, 0, none⟩)) := at_out hEA (d := 5) (by kernel_rfl); simp [execOp, e5, hc0, hc1, hc2, go_sem]
        · refine ob_call (q := 5) (f := 15) (args := #[.agg #[.int .i64 c, .int .i64 d, .int .i64 u]]) (want_is hEA (g := 17) (x := true) (b := true) rfl rfl rfl rfl) (by kernel_rfl) (fun w' => by have e49 : Fr.tmps[49]? = some (.agg #[.int .i64 c, .int .i64 d, .int .i64 u]) := hEA.dst 18 _ 49 rfl rfl; simp [e49, go_sem]) ?_
          intro w' hw
          refine (Calls.mono (R := fun E W' => E = .returned (.bool (okV c d u)) ∧ Below w'.heap.size w' W') (id_any c d u w') ?_)
          rintro e w2 ⟨rfl, hb⟩
          exact ⟨rfl, hw.trans (hb.mono hw.size)⟩
        · refine ob_val (want_is hEA (g := 17) (x := true) (b := true) rfl rfl rfl rfl) (by kernel_rfl) (fun ph w' hp hpm hw => ?_)
          have hc0 := (hw.cell (p := ⟨w.heap.size + 1, 0, none⟩) bv.lt).trans (bv.c 0 _ rfl)
          have hc1 := (hw.cell (p := ⟨w.heap.size + 1, 1, none⟩) bv.lt).trans (bv.c 1 _ rfl)
          have hc2 := (hw.cell (p := ⟨w.heap.size + 1, 2, none⟩) bv.lt).trans (bv.c 2 _ rfl)
          have e5 : Fr.tmps[5]? = some (.pointer (some ⟨w.heap.size + 1, 0, none⟩)) := at_out hEA (d := 5) (by kernel_rfl); simp [execOp, e5, hc0, hc1, hc2, go_sem]
        · refine ob_call (q := 6) (f := 16) (args := #[.agg #[.int .i64 c, .int .i64 d, .int .i64 u]]) (want_is hEA (g := 17) (x := true) (b := true) rfl rfl rfl rfl) (by kernel_rfl) (fun w' => by have e51 : Fr.tmps[51]? = some (.agg #[.int .i64 c, .int .i64 d, .int .i64 u]) := hEA.dst 20 _ 51 rfl rfl; simp [e51, go_sem]) ?_
          intro w' hw
          refine (Calls.mono (R := fun E W' => E = .returned (.bool (okV c d u)) ∧ Below w'.heap.size w' W') (refId_any c d u w') ?_)
          rintro e w2 ⟨rfl, hb⟩
          exact ⟨rfl, hw.trans (hb.mono hw.size)⟩
        · refine ob_val (want_is hEA (g := 17) (x := true) (b := true) rfl rfl rfl rfl) (by kernel_rfl) (fun ph w' hp hpm hw => ?_)
          have e50 : Fr.tmps[50]? = some (.bool (okV c d u)) := hEA.dst 19 _ 50 rfl rfl; have e52 : Fr.tmps[52]? = some (.bool (okV c d u)) := hEA.dst 21 _ 52 rfl rfl; simp [execOp, e50, e52, go_sem]
        · refine ob_val (want_none rfl) (by kernel_rfl) (fun ph w' hp hpm hw => ?_)
          have e48 : Fr.tmps[48]? = some (.bool true) := hEA.dst 17 _ 48 rfl rfl; have e53 : Fr.tmps[53]? = some (.bool true) := hEA.dst 22 _ 53 rfl rfl; simp [execOp, e48, e53, go_sem]
        · exact ob_move _ rfl (want_none rfl) (by kernel_rfl) (eval_dst hEA (j := 23) rfl rfl)
        · refine ob_val (want_is hEA (g := 24) (x := true) (b := true) rfl rfl rfl rfl) (by kernel_rfl) (fun ph w' hp hpm hw => ?_)
          have hc0 := (hw.cell (p := ⟨w.heap.size + 1, 0, none⟩) bv.lt).trans (bv.c 0 _ rfl)
          have hc1 := (hw.cell (p := ⟨w.heap.size + 1, 1, none⟩) bv.lt).trans (bv.c 1 _ rfl)
          have hc2 := (hw.cell (p := ⟨w.heap.size + 1, 2, none⟩) bv.lt).trans (bv.c 2 _ rfl)
          have e5 : Fr.tmps[5]? = some (.pointer (some ⟨w.heap.size + 1, 0, none⟩)) := at_out hEA (d := 5) (by kernel_rfl); simp [execOp, e5, hc0, hc1, hc2, go_sem]
        · refine ob_call (q := 7) (f := 17) (args := #[.agg #[.int .i64 c, .int .i64 d, .int .i64 u]]) (want_is hEA (g := 24) (x := true) (b := true) rfl rfl rfl rfl) (by kernel_rfl) (fun w' => by have e56 : Fr.tmps[56]? = some (.agg #[.int .i64 c, .int .i64 d, .int .i64 u]) := hEA.dst 25 _ 56 rfl rfl; simp [e56, go_sem]) ?_
          intro w' hw
          refine (Calls.mono (R := fun E W' => E = .returned (.bool (noneV c d u)) ∧ Below w'.heap.size w' W') (none_any c d u w') ?_)
          rintro e w2 ⟨rfl, hb⟩
          exact ⟨rfl, hw.trans (hb.mono hw.size)⟩
        · refine ob_val (want_is hEA (g := 24) (x := true) (b := true) rfl rfl rfl rfl) (by kernel_rfl) (fun ph w' hp hpm hw => ?_)
          have hc0 := (hw.cell (p := ⟨w.heap.size + 1, 0, none⟩) bv.lt).trans (bv.c 0 _ rfl)
          have hc1 := (hw.cell (p := ⟨w.heap.size + 1, 1, none⟩) bv.lt).trans (bv.c 1 _ rfl)
          have hc2 := (hw.cell (p := ⟨w.heap.size + 1, 2, none⟩) bv.lt).trans (bv.c 2 _ rfl)
          have e5 : Fr.tmps[5]? = some (.pointer (some ⟨w.heap.size + 1, 0, none⟩)) := at_out hEA (d := 5) (by kernel_rfl); simp [execOp, e5, hc0, hc1, hc2, go_sem]
        · refine ob_call (q := 8) (f := 18) (args := #[.agg #[.int .i64 c, .int .i64 d, .int .i64 u]]) (want_is hEA (g := 24) (x := true) (b := true) rfl rfl rfl rfl) (by kernel_rfl) (fun w' => by have e58 : Fr.tmps[58]? = some (.agg #[.int .i64 c, .int .i64 d, .int .i64 u]) := hEA.dst 27 _ 58 rfl rfl; simp [e58, go_sem]) ?_
          intro w' hw
          refine (Calls.mono (R := fun E W' => E = .returned (.bool (noneV c d u)) ∧ Below w'.heap.size w' W') (refNone_any c d u w') ?_)
          rintro e w2 ⟨rfl, hb⟩
          exact ⟨rfl, hw.trans (hb.mono hw.size)⟩
        · refine ob_val (want_is hEA (g := 24) (x := true) (b := true) rfl rfl rfl rfl) (by kernel_rfl) (fun ph w' hp hpm hw => ?_)
          have e57 : Fr.tmps[57]? = some (.bool (noneV c d u)) := hEA.dst 26 _ 57 rfl rfl; have e59 : Fr.tmps[59]? = some (.bool (noneV c d u)) := hEA.dst 28 _ 59 rfl rfl; simp [execOp, e57, e59, go_sem]
        · refine ob_val (want_none rfl) (by kernel_rfl) (fun ph w' hp hpm hw => ?_)
          have e55 : Fr.tmps[55]? = some (.bool true) := hEA.dst 24 _ 55 rfl rfl; have e60 : Fr.tmps[60]? = some (.bool true) := hEA.dst 29 _ 60 rfl rfl; simp [execOp, e55, e60, go_sem]
        · exact ob_move _ rfl (want_none rfl) (by kernel_rfl) (eval_dst hEA (j := 30) rfl rfl)
        · refine ob_val (want_is hEA (g := 31) (x := true) (b := true) rfl rfl rfl rfl) (by kernel_rfl) (fun ph w' hp hpm hw => ?_)
          have hc0 := (hw.cell (p := ⟨w.heap.size, 0, none⟩) bm.lt).trans (bm.c 0 _ rfl)
          have hc1 := (hw.cell (p := ⟨w.heap.size, 1, none⟩) bm.lt).trans (bm.c 1 _ rfl)
          have e4 : Fr.tmps[4]? = some (.pointer (some ⟨w.heap.size, 0, none⟩)) := at_out hEA (d := 4) (by kernel_rfl); simp [execOp, e4, hc0, hc1, go_sem]
        · refine ob_call (q := 9) (f := 19) (args := #[.agg #[.int .i64 a, .int .i64 b]]) (want_is hEA (g := 31) (x := true) (b := true) rfl rfl rfl rfl) (by kernel_rfl) (fun w' => by have e63 : Fr.tmps[63]? = some (.agg #[.int .i64 a, .int .i64 b]) := hEA.dst 32 _ 63 rfl rfl; simp [e63, go_sem]) ?_
          intro w' hw
          refine (Calls.mono (R := fun E W' => E = .returned (.string (tx (layM a b))) ∧ Below w'.heap.size w' W') (print_any a b w') ?_)
          rintro e w2 ⟨rfl, hb⟩
          exact ⟨rfl, hw.trans (hb.mono hw.size)⟩
        · refine ob_val (want_is hEA (g := 31) (x := true) (b := true) rfl rfl rfl rfl) (by kernel_rfl) (fun ph w' hp hpm hw => ?_)
          have hc0 := (hw.cell (p := ⟨w.heap.size, 0, none⟩) bm.lt).trans (bm.c 0 _ rfl)
          have hc1 := (hw.cell (p := ⟨w.heap.size, 1, none⟩) bm.lt).trans (bm.c 1 _ rfl)
          have e4 : Fr.tmps[4]? = some (.pointer (some ⟨w.heap.size, 0, none⟩)) := at_out hEA (d := 4) (by kernel_rfl); simp [execOp, e4, hc0, hc1, go_sem]
        · refine ob_call (q := 10) (f := 20) (args := #[.agg #[.int .i64 a, .int .i64 b]]) (want_is hEA (g := 31) (x := true) (b := true) rfl rfl rfl rfl) (by kernel_rfl) (fun w' => by have e65 : Fr.tmps[65]? = some (.agg #[.int .i64 a, .int .i64 b]) := hEA.dst 34 _ 65 rfl rfl; simp [e65, go_sem]) ?_
          intro w' hw
          refine (Calls.mono (R := fun E W' => E = .returned (.string (tx (layM a b))) ∧ Below w'.heap.size w' W') (refPrint_any a b w') ?_)
          rintro e w2 ⟨rfl, hb⟩
          exact ⟨rfl, hw.trans (hb.mono hw.size)⟩
        · refine ob_val (want_is hEA (g := 31) (x := true) (b := true) rfl rfl rfl rfl) (by kernel_rfl) (fun ph w' hp hpm hw => ?_)
          have e64 : Fr.tmps[64]? = some (.string (tx (layM a b))) := hEA.dst 33 _ 64 rfl rfl; have e66 : Fr.tmps[66]? = some (.string (tx (layM a b))) := hEA.dst 35 _ 66 rfl rfl; simp [execOp, e64, e66, go_sem]
        · refine ob_val (want_none rfl) (by kernel_rfl) (fun ph w' hp hpm hw => ?_)
          have e62 : Fr.tmps[62]? = some (.bool true) := hEA.dst 31 _ 62 rfl rfl; have e67 : Fr.tmps[67]? = some (.bool true) := hEA.dst 36 _ 67 rfl rfl; simp [execOp, e62, e67, go_sem]
        · exact ob_move _ rfl (want_none rfl) (by kernel_rfl) (eval_dst hEA (j := 37) rfl rfl)
        · refine ob_val (want_is hEA (g := 38) (x := true) (b := true) rfl rfl rfl rfl) (by kernel_rfl) (fun ph w' hp hpm hw => ?_)
          have hc0 := (hw.cell (p := ⟨w.heap.size + 1, 0, none⟩) bv.lt).trans (bv.c 0 _ rfl)
          have hc1 := (hw.cell (p := ⟨w.heap.size + 1, 1, none⟩) bv.lt).trans (bv.c 1 _ rfl)
          have hc2 := (hw.cell (p := ⟨w.heap.size + 1, 2, none⟩) bv.lt).trans (bv.c 2 _ rfl)
          have e5 : Fr.tmps[5]? = some (.pointer (some ⟨w.heap.size + 1, 0, none⟩)) := at_out hEA (d := 5) (by kernel_rfl); simp [execOp, e5, hc0, hc1, hc2, go_sem]
        · refine ob_call (q := 11) (f := 21) (args := #[.agg #[.int .i64 c, .int .i64 d, .int .i64 u]]) (want_is hEA (g := 38) (x := true) (b := true) rfl rfl rfl rfl) (by kernel_rfl) (fun w' => by have e70 : Fr.tmps[70]? = some (.agg #[.int .i64 c, .int .i64 d, .int .i64 u]) := hEA.dst 39 _ 70 rfl rfl; simp [e70, go_sem]) ?_
          intro w' hw
          refine (Calls.mono (R := fun E W' => E = .returned (.string (tx (layV c d u))) ∧ Below w'.heap.size w' W') (printId_any c d u w') ?_)
          rintro e w2 ⟨rfl, hb⟩
          exact ⟨rfl, hw.trans (hb.mono hw.size)⟩
        · refine ob_val (want_is hEA (g := 38) (x := true) (b := true) rfl rfl rfl rfl) (by kernel_rfl) (fun ph w' hp hpm hw => ?_)
          have hc0 := (hw.cell (p := ⟨w.heap.size + 1, 0, none⟩) bv.lt).trans (bv.c 0 _ rfl)
          have hc1 := (hw.cell (p := ⟨w.heap.size + 1, 1, none⟩) bv.lt).trans (bv.c 1 _ rfl)
          have hc2 := (hw.cell (p := ⟨w.heap.size + 1, 2, none⟩) bv.lt).trans (bv.c 2 _ rfl)
          have e5 : Fr.tmps[5]? = some (.pointer (some ⟨w.heap.size + 1, 0, none⟩)) := at_out hEA (d := 5) (by kernel_rfl); simp [execOp, e5, hc0, hc1, hc2, go_sem]
        · refine ob_call (q := 12) (f := 22) (args := #[.agg #[.int .i64 c, .int .i64 d, .int .i64 u]]) (want_is hEA (g := 38) (x := true) (b := true) rfl rfl rfl rfl) (by kernel_rfl) (fun w' => by have e72 : Fr.tmps[72]? = some (.agg #[.int .i64 c, .int .i64 d, .int .i64 u]) := hEA.dst 41 _ 72 rfl rfl; simp [e72, go_sem]) ?_
          intro w' hw
          refine (Calls.mono (R := fun E W' => E = .returned (.string (tx (layV c d u))) ∧ Below w'.heap.size w' W') (refPrintId_any c d u w') ?_)
          rintro e w2 ⟨rfl, hb⟩
          exact ⟨rfl, hw.trans (hb.mono hw.size)⟩
        · refine ob_val (want_is hEA (g := 38) (x := true) (b := true) rfl rfl rfl rfl) (by kernel_rfl) (fun ph w' hp hpm hw => ?_)
          have e71 : Fr.tmps[71]? = some (.string (tx (layV c d u))) := hEA.dst 40 _ 71 rfl rfl; have e73 : Fr.tmps[73]? = some (.string (tx (layV c d u))) := hEA.dst 42 _ 73 rfl rfl; simp [execOp, e71, e73, go_sem]
        · refine ob_val (want_none rfl) (by kernel_rfl) (fun ph w' hp hpm hw => ?_)
          have e69 : Fr.tmps[69]? = some (.bool true) := hEA.dst 38 _ 69 rfl rfl; have e74 : Fr.tmps[74]? = some (.bool true) := hEA.dst 43 _ 74 rfl rfl; simp [execOp, e69, e74, go_sem]
        · refine ob_val (want_none rfl) (by kernel_rfl) (fun ph w' hp hpm hw => ?_)
          have e75 : Fr.tmps[75]? = some (.bool true) := hEA.dst 44 _ 75 rfl rfl; simp [execOp, e75, go_sem]
      · intro w' hw
        simp only [laid, Act.put, List.setIfInBounds_toArray, List.set_cons_succ, List.set_cons_zero, List.getD_cons_succ, List.getD_cons_zero, Nat.zero_add, Nat.reduceAdd]
        go_wp2_with fail
        go_ret
        exact ⟨rfl, B.trans (hw.mono B.size)⟩

theorem memberTells_walk (A : Option Addr) (len cap : Nat) (x y : Array Value) (w : World) (w0 : ∃ xs, Mems w.heap.size w xs [.slice A len cap]) (w1 : ∃ m, IsM w.heap.size w m x.toList) (w2 : ∃ v, IsV w.heap.size w v y.toList) :
    Calls Try.prog 3 #[.slice A len cap, .agg x, .agg y] w fun e w' => e = .returned (.bool true) ∧ Below w.heap.size w w' := by
  obtain ⟨xs, hx⟩ := w0
  obtain ⟨⟨a, b⟩, h0⟩ := w1
  obtain ⟨⟨c, d, u⟩, h1⟩ := w2
  have h0 : x = #[.int .i64 a, .int .i64 b] := by cases x; exact congrArg Array.mk h0
  have h1 : y = #[.int .i64 c, .int .i64 d, .int .i64 u] := by cases y; exact congrArg Array.mk h1
  subst h0 h1
  obtain ⟨A', cap', he, _⟩ := mems_at hx
  injection he with e1 e2 e3
  subst e2
  by_cases h : xs.length ≤ 100
  · exact memberTells_in A cap xs a b c d u w hx h
  · exact memberTells_big A _ cap a b c d u w h

end Go.Proofs.Ytbjefnboppfnaaa
