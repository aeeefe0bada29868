/- lodgelaw11.PruneOrder answers true, whatever slice of spots and members come in, and leaves memory below as it was. No condition. -/
import Derived.Test.YtghnnmgohkfljaaAwake11
import Derived.Test.YtghnnmgohkfljaaSmallL
import Derived.Test.YtghnnmgohkfljaaPhaseR
import Derived.Test.YtghnnmgohkfljaaLens
namespace Go.Proofs.Ytghnnmgohkfljaa
open Go Go.RowKit
set_option linter.unusedVariables false

theorem new2b (w : World) (cs ds : List Value) (t u : TypeId) : ∃ W0, (w.alloc (.cells cs.toArray t)).alloc (.cells ds.toArray u) = W0 ∧ Box W0 w.heap.size cs ∧ Box W0 (w.heap.size + 1) ds ∧ Below w.heap.size w W0 := by
  refine ⟨_, rfl, ?_, ?_, below_new2 _ _ _⟩
  · exact (Box.new w cs t).below (below_new _ _) (by simp)
  · have := Box.new (w.alloc (.cells cs.toArray t)) ds u
    rwa [show (w.alloc (.cells cs.toArray t)).heap.size = w.heap.size + 1 by simp] at this
set_option maxRecDepth 100000 in
set_option maxHeartbeats 8000000 in
theorem pruneOrder_walk (A : Option Addr) (la ca : Nat) (c d : Array Value) (w : World) (h : ∃ xs, Spots w.heap.size w xs [.slice A la ca]) (h' : ∃ m, IsM w.heap.size w m c.toList) (h'' : ∃ m, IsM w.heap.size w m d.toList) :
    Calls Try.prog 5 #[.slice A la ca, .agg c, .agg d] w fun e w' => e = .returned (.bool true) ∧ Below w.heap.size w w' := by
  obtain ⟨xs, hx⟩ := h
  have HX := Lib.hid hx
  obtain ⟨_, _, e, hlcHX, hcmHX, _⟩ := spots_at hx
  simp only [Value.slice.injEq] at e
  obtain ⟨rfl, hlHX, rfl⟩ := e
  have hcHX : ca ≤ 9223372036854775807 := Nat.le_trans hcmHX (by decide)
  subst hlHX
  clear hx hcmHX
  obtain ⟨⟨m1, m2⟩, hm⟩ := h'
  obtain rfl : c = #[.int .i64 m1, .int .i64 m2] := by
    have hm : c.toList = [.int .i64 m1, .int .i64 m2] := hm
    rw [← Array.toArray_toList (xs := c), hm]
  clear hm
  obtain ⟨⟨n1, n2⟩, hm⟩ := h''
  obtain rfl : d = #[.int .i64 n1, .int .i64 n2] := by
    have hm : d.toList = [.int .i64 n1, .int .i64 n2] := hm
    rw [← Array.toArray_toList (xs := d), hm]
  clear hm
  obtain ⟨b, hb1, -, hb2⟩ := smallL_any xs
  have HSM := Lib.hid hb2
  clear hb2
  go_enter Try.func5, Try.ntmps5
  go_wp2_with fail
  obtain ⟨W0, hW0, b0, b1, B⟩ := new2b w [.int .i64 m1, .int .i64 m2] [.int .i64 n1, .int .i64 n2] 25 25
  rw [hW0]
  clear hW0
  replace HX := Lib.hid (keeps_spots _ _ _ _ _ _ HX.out B B.size)
  refine (HSM.out _ W0 HX.out).mono ?_
  rintro e W2 ⟨rfl, hb⟩
  replace b0 := b0.next hb
  replace b1 := b1.next hb
  replace HX := Lib.hid (keeps_spots _ _ _ _ _ _ HX.out hb hb.size)
  replace B := B.trans (hb.mono B.size)
  clear hb
  cases b with
  | false =>
    clear hb1
    go_wp2_with fail
    refine (awake11_any W2).mono ?_
    rintro e W9 ⟨rfl, B9⟩
    go_wp2
    go_ret
    exact ⟨rfl, B.trans (B9.mono B.size)⟩
  | true =>
    obtain ⟨ot, rfl, hok⟩ := hb1 rfl
    have hn : (spo ot).length ≤ 400000 := by have := (okT_parts hok).1; omega
    have hw0 := (okT_parts hok).2.1
    have hsl : (lv (spo ot)).length ≤ 1000 := Nat.le_trans (okT_few hok) (by decide)
    have hl2 : (spo (withoutO (n1, n2) (withoutO (m1, m2) ot))).length ≤ 1000000 := by
      have h1 := len_keep ((lvO ot).filter fun x => decide (x ≠ (m1, m2))) ot
      have h2 := len_keep ((lvO (withoutO (m1, m2) ot)).filter fun x => decide (x ≠ (n1, n2))) (withoutO (m1, m2) ot)
      have h3 : (spo (withoutO (m1, m2) ot)).length ≤ (spo ot).length := h1
      have h4 : (spo (withoutO (n1, n2) (withoutO (m1, m2) ot))).length ≤ (spo (withoutO (m1, m2) ot)).length := h2
      omega
    have HAL : Hid (spo (keepO (lv (spo ot)) ot) = spo ot) := Lib.hid (congrArg spo (keep_all hw0 (fun m hm => hm)))
    have HNI : Hid (decide ((m1, m2) ∈ lv (spo (withoutO (n1, n2) (withoutO (m1, m2) ot)))) = false) := Lib.hid (decide_eq_false (by
      have e : lv (spo (withoutO (n1, n2) (withoutO (m1, m2) ot))) = lvO (withoutO (n1, n2) (withoutO (m1, m2) ot)) := rfl
      rw [e, without_lv, without_lv]
      simp))
    clear hb1
    go_wp2_with fail
    refine wp_region_results (fun r i => ([.slice A (spo ot).length ca, .agg #[.int .i64 m1, .int .i64 m2], (r 0), .agg #[.int .i64 n1, .int .i64 n2], (r 1), (r 1)] : List Value).getD i undef) [2, 4] [0, 0, 0, 0, 1, 2] (fun r q w' => (Below W2.heap.size W2 w') ∧ (0 < q → Spots w'.heap.size w' (spo (withoutO (m1, m2) ot)) [(r 0)]) ∧ (1 < q → Spots w'.heap.size w' (spo (withoutO (n1, n2) (withoutO (m1, m2) ot))) [(r 1)])) (by kernel_rfl) (by kernel_rfl) (fun r => ⟨⟨rfl, rfl, rfl, Nat.le_refl _, fun _ _ => rfl⟩, fun h => absurd h (Nat.not_lt_zero _), fun h => absurd h (Nat.not_lt_zero _)⟩) ?_ ?_
    · refine ObsR_of_ends (by kernel_rfl) ?_
      intro r Fr hEA
      refine ⟨?_, ?_, ?_, ?_, ?_, ?_, trivial⟩
      · exact obR_move _ rfl (want_none rfl) (by kernel_rfl) (eval_out hEA (d := 0) (by kernel_rfl))
      · refine obR_val (want_none rfl) (by kernel_rfl) (fun ph w' hp hpm hw => ?_)
        have hc0 := (hw.1.cell (p := ⟨w.heap.size, 0, none⟩) b0.lt).trans (b0.c 0 _ rfl)
        have hc1 := (hw.1.cell (p := ⟨w.heap.size, 1, none⟩) b0.lt).trans (b0.c 1 _ rfl)
        have e4 : Fr.tmps[4]? = some (.pointer (some ⟨w.heap.size, 0, none⟩)) := at_out hEA (d := 4) (by kernel_rfl); simp [execOp, e4, hc0, hc1, go_sem]
      · refine obR_call (q := 0) (f := 13) (args := #[.slice A (spo ot).length ca, .agg #[.int .i64 m1, .int .i64 m2]]) (want_none rfl) (by kernel_rfl) (fun w' => by have e13 : Fr.tmps[13]? = some (.slice A (spo ot).length ca) := hEA.dst 0 _ 13 rfl rfl; have e14 : Fr.tmps[14]? = some (.agg #[.int .i64 m1, .int .i64 m2]) := hEA.dst 1 _ 14 rfl rfl; simp [e13, e14, go_sem]) ?_
        intro w' hw
        refine (pWithout_any _ ot m1 m2 w' (keeps_spots _ _ _ _ _ _ HX.out hw.1 hw.1.size) hok).mono ?_
        rintro e w2 ⟨v', rfl, hs, hb⟩
        exact ⟨_, rfl, fun r' hr hv => ⟨hv, ⟨hw.1.trans (hb.mono hw.1.size), fun _ => by rw [hv]; exact hs, fun h => absurd h (by decide)⟩⟩⟩
      · refine obR_val (want_none rfl) (by kernel_rfl) (fun ph w' hp hpm hw => ?_)
        have hc0 := (hw.1.cell (p := ⟨w.heap.size + 1, 0, none⟩) b1.lt).trans (b1.c 0 _ rfl)
        have hc1 := (hw.1.cell (p := ⟨w.heap.size + 1, 1, none⟩) b1.lt).trans (b1.c 1 _ rfl)
        have e5 : Fr.tmps[5]? = some (.pointer (some ⟨w.heap.size + 1, 0, none⟩)) := at_out hEA (d := 5) (by kernel_rfl); simp [execOp, e5, hc0, hc1, go_sem]
      · refine obR_call (q := 1) (f := 13) (args := #[(r 0), .agg #[.int .i64 n1, .int .i64 n2]]) (want_none rfl) (by kernel_rfl) (fun w' => by have e15 : Fr.tmps[15]? = some ((r 0)) := hEA.dst 2 _ 15 rfl rfl; have e16 : Fr.tmps[16]? = some (.agg #[.int .i64 n1, .int .i64 n2]) := hEA.dst 3 _ 16 rfl rfl; simp [e15, e16, go_sem]) ?_
        intro w' hw
        refine (pWithout_any _ (withoutO (m1, m2) ot) n1 n2 w' (hw.2.1 (by decide)) (okT_without hok (m1, m2))).mono ?_
        rintro e w2 ⟨v', rfl, hs, hb⟩
        exact ⟨_, rfl, fun r' hr hv => ⟨hv, ⟨hw.1.trans (hb.mono hw.1.size), fun _ => by rw [hr 0 (by decide)]; exact keeps_spots _ _ _ _ _ _ (hw.2.1 (by decide)) hb hb.size, fun _ => by rw [hv]; exact hs⟩⟩⟩
      · refine obR_val (want_none rfl) (by kernel_rfl) (fun ph w' hp hpm hw => ?_)
        have e17 : Fr.tmps[17]? = some ((r 1)) := hEA.dst 4 _ 17 rfl rfl; simp [execOp, e17, go_sem]
    · intro r w' hw
      simp only [laid, Act.put, List.setIfInBounds_toArray, List.set_cons_succ, List.set_cons_zero, List.getD_cons_succ, List.getD_cons_zero, Nat.zero_add, Nat.reduceAdd]
      obtain ⟨W3, hWn⟩ : ∃ W, w' = W := ⟨_, rfl⟩
      have hs := (hw.2.2 (by decide))
      have hb : Below W2.heap.size W2 w' := hw.1
      clear hw
      rw [hWn] at hs hb
      rw [hWn]
      obtain ⟨vv, hv⟩ : ∃ v, r 1 = v := ⟨_, rfl⟩
      rw [hv] at hs
      try rw [hv]
      have HV := Lib.hid hs
      replace b0 := b0.next hb
      replace b1 := b1.next hb
      replace HX := Lib.hid (keeps_spots _ _ _ _ _ _ HX.out hb hb.size)
      replace B := B.trans (hb.mono B.size)
      clear hb hs hWn hv
      go_wp2_with fail
      refine wp_region_results (fun r i => ([.slice A (spo ot).length ca, .agg #[.int .i64 n1, .int .i64 n2], (r 0), .agg #[.int .i64 m1, .int .i64 m2], (r 1), (r 1)] : List Value).getD i undef) [2, 4] [0, 0, 0, 0, 1, 2] (fun r q w' => (Below W3.heap.size W3 w') ∧ (0 < q → Spots w'.heap.size w' (spo (withoutO (n1, n2) ot)) [(r 0)]) ∧ (1 < q → Spots w'.heap.size w' (spo (withoutO (m1, m2) (withoutO (n1, n2) ot))) [(r 1)])) (by kernel_rfl) (by kernel_rfl) (fun r => ⟨⟨rfl, rfl, rfl, Nat.le_refl _, fun _ _ => rfl⟩, fun h => absurd h (Nat.not_lt_zero _), fun h => absurd h (Nat.not_lt_zero _)⟩) ?_ ?_
      · refine ObsR_of_ends (by kernel_rfl) ?_
        intro r Fr hEA
        refine ⟨?_, ?_, ?_, ?_, ?_, ?_, trivial⟩
        · exact obR_move _ rfl (want_none rfl) (by kernel_rfl) (eval_out hEA (d := 0) (by kernel_rfl))
        · refine obR_val (want_none rfl) (by kernel_rfl) (fun ph w' hp hpm hw => ?_)
          have hc0 := (hw.1.cell (p := ⟨w.heap.size + 1, 0, none⟩) b1.lt).trans (b1.c 0 _ rfl)
          have hc1 := (hw.1.cell (p := ⟨w.heap.size + 1, 1, none⟩) b1.lt).trans (b1.c 1 _ rfl)
          have e5 : Fr.tmps[5]? = some (.pointer (some ⟨w.heap.size + 1, 0, none⟩)) := at_out hEA (d := 5) (by kernel_rfl); simp [execOp, e5, hc0, hc1, go_sem]
        · refine obR_call (q := 0) (f := 13) (args := #[.slice A (spo ot).length ca, .agg #[.int .i64 n1, .int .i64 n2]]) (want_none rfl) (by kernel_rfl) (fun w' => by have e18 : Fr.tmps[18]? = some (.slice A (spo ot).length ca) := hEA.dst 0 _ 18 rfl rfl; have e19 : Fr.tmps[19]? = some (.agg #[.int .i64 n1, .int .i64 n2]) := hEA.dst 1 _ 19 rfl rfl; simp [e18, e19, go_sem]) ?_
          intro w' hw
          refine (pWithout_any _ ot n1 n2 w' (keeps_spots _ _ _ _ _ _ HX.out hw.1 hw.1.size) hok).mono ?_
          rintro e w2 ⟨v', rfl, hs, hb⟩
          exact ⟨_, rfl, fun r' hr hv => ⟨hv, ⟨hw.1.trans (hb.mono hw.1.size), fun _ => by rw [hv]; exact hs, fun h => absurd h (by decide)⟩⟩⟩
        · refine obR_val (want_none rfl) (by kernel_rfl) (fun ph w' hp hpm hw => ?_)
          have hc0 := (hw.1.cell (p := ⟨w.heap.size, 0, none⟩) b0.lt).trans (b0.c 0 _ rfl)
          have hc1 := (hw.1.cell (p := ⟨w.heap.size, 1, none⟩) b0.lt).trans (b0.c 1 _ rfl)
          have e4 : Fr.tmps[4]? = some (.pointer (some ⟨w.heap.size, 0, none⟩)) := at_out hEA (d := 4) (by kernel_rfl); simp [execOp, e4, hc0, hc1, go_sem]
        · refine obR_call (q := 1) (f := 13) (args := #[(r 0), .agg #[.int .i64 m1, .int .i64 m2]]) (want_none rfl) (by kernel_rfl) (fun w' => by have e20 : Fr.tmps[20]? = some ((r 0)) := hEA.dst 2 _ 20 rfl rfl; have e21 : Fr.tmps[21]? = some (.agg #[.int .i64 m1, .int .i64 m2]) := hEA.dst 3 _ 21 rfl rfl; simp [e20, e21, go_sem]) ?_
          intro w' hw
          refine (pWithout_any _ (withoutO (n1, n2) ot) m1 m2 w' (hw.2.1 (by decide)) (okT_without hok (n1, n2))).mono ?_
          rintro e w2 ⟨v', rfl, hs, hb⟩
          exact ⟨_, rfl, fun r' hr hv => ⟨hv, ⟨hw.1.trans (hb.mono hw.1.size), fun _ => by rw [hr 0 (by decide)]; exact keeps_spots _ _ _ _ _ _ (hw.2.1 (by decide)) hb hb.size, fun _ => by rw [hv]; exact hs⟩⟩⟩
        · refine obR_val (want_none rfl) (by kernel_rfl) (fun ph w' hp hpm hw => ?_)
          have e22 : Fr.tmps[22]? = some ((r 1)) := hEA.dst 4 _ 22 rfl rfl; simp [execOp, e22, go_sem]
      · intro r w' hw
        simp only [laid, Act.put, List.setIfInBounds_toArray, List.set_cons_succ, List.set_cons_zero, List.getD_cons_succ, List.getD_cons_zero, Nat.zero_add, Nat.reduceAdd]
        obtain ⟨W4, hWn⟩ : ∃ W, w' = W := ⟨_, rfl⟩
        have hs := (hw.2.2 (by decide))
        have hb : Below W3.heap.size W3 w' := hw.1
        clear hw
        rw [hWn] at hs hb
        rw [hWn]
        obtain ⟨vu, hv⟩ : ∃ v, r 1 = v := ⟨_, rfl⟩
        rw [hv] at hs
        try rw [hv]
        rw [without_swap (n1, n2) (m1, m2) ot] at hs
        have HU := Lib.hid hs
        replace b0 := b0.next hb
        replace b1 := b1.next hb
        replace HX := Lib.hid (keeps_spots _ _ _ _ _ _ HX.out hb hb.size)
        replace HV := Lib.hid (keeps_spots _ _ _ _ _ _ HV.out hb hb.size)
        replace B := B.trans (hb.mono B.size)
        clear hb hs hWn hv
        cases hin : decide ((m1, m2) ∈ lv (spo ot))
        · have HIN := Lib.hid hin
          have HSA : Hid (spo (withoutO (m1, m2) ot) = spo ot) := Lib.hid (by rw [without_same hw0 (of_decide_eq_false hin)])
          clear hin
          go_wp2_with fail
          refine wp_region_results (fun r i => ([.bool true, .bool true, vv, vu, .bool true, .bool true, .bool true, .slice A (spo ot).length ca, .slice A (spo ot).length ca, (r 2), (r 3), .slice A (spo ot).length ca, .bool true, .bool true, .bool true, vv, (r 5), .agg #[.int .i64 m1, .int .i64 m2], .bool false, .bool true, .bool true, .bool true, .slice A (spo ot).length ca, (r 7), .agg #[.int .i64 m1, .int .i64 m2], .bool false, .bool false, .slice A (spo ot).length ca, .agg #[.int .i64 m1, .int .i64 m2], (r 9), .slice A (spo ot).length ca, .bool true, .bool true, .bool true, .bool true] : List Value).getD i undef) [0, 4, 9, 10, 12, 16, 18, 23, 25, 29, 31] [0, 1, 1, 1, 1, 2, 2, 2, 2, 2, 3, 2, 4, 5, 5, 5, 5, 5, 6, 7, 7, 7, 7, 7, 7, 8, 9, 9, 9, 9, 9, 10, 11, 11, 11] (fun r q w' => (Below W4.heap.size W4 w') ∧ (2 < q → Mems w'.heap.size w' (lv (spo ot)) [(r 2)]) ∧ (3 < q → Spots w'.heap.size w' (spo ot) [(r 3)]) ∧ (5 < q → Mems w'.heap.size w' (lv (spo (withoutO (n1, n2) (withoutO (m1, m2) ot)))) [(r 5)]) ∧ (7 < q → Mems w'.heap.size w' (lv (spo ot)) [(r 7)]) ∧ (9 < q → Spots w'.heap.size w' (spo ot) [(r 9)])) (by kernel_rfl) (by kernel_rfl) (fun r => ⟨⟨rfl, rfl, rfl, Nat.le_refl _, fun _ _ => rfl⟩, fun h => absurd h (Nat.not_lt_zero _), fun h => absurd h (Nat.not_lt_zero _), fun h => absurd h (Nat.not_lt_zero _), fun h => absurd h (Nat.not_lt_zero _), fun h => absurd h (Nat.not_lt_zero _)⟩) ?_ ?_
          · refine ObsR_of_ends (by kernel_rfl) ?_
            intro r Fr hEA
            refine ⟨?_, ?_, ?_, ?_, ?_, ?_, ?_, ?_, ?_, ?_, ?_, ?_, ?_, ?_, ?_, ?_, ?_, ?_, ?_, ?_, ?_, ?_, ?_, ?_, ?_, ?_, ?_, ?_, ?_, ?_, ?_, ?_, ?_, ?_, ?_, trivial⟩
            · refine obR_call (q := 0) (f := 9) (args := #[]) (want_none rfl) (by kernel_rfl) (fun w' => by simp [go_sem]) ?_
              intro w' hw
              refine (awake11_any w').mono ?_
              rintro e w2 ⟨rfl, hb⟩
              exact ⟨_, rfl, fun r' hr hv => ⟨rfl, ⟨hw.1.trans (hb.mono hw.1.size), fun h => absurd h (by decide), fun h => absurd h (by decide), fun h => absurd h (by decide), fun h => absurd h (by decide), fun h => absurd h (by decide)⟩⟩⟩
            · exact obR_move _ rfl (want_none rfl) (by kernel_rfl) (eval_dst hEA (j := 0) rfl rfl)
            · exact obR_move _ rfl (want_is hEA (g := 1) (x := true) (b := true) rfl rfl rfl rfl) (by kernel_rfl) (eval_out hEA (d := 7) (by kernel_rfl))
            · exact obR_move _ rfl (want_is hEA (g := 1) (x := true) (b := true) rfl rfl rfl rfl) (by kernel_rfl) (eval_out hEA (d := 8) (by kernel_rfl))
            · refine obR_call (q := 1) (f := 10) (args := #[vv, vu]) (want_is hEA (g := 1) (x := true) (b := true) rfl rfl rfl rfl) (by kernel_rfl) (fun w' => by have e25 : Fr.tmps[25]? = some (vv) := hEA.dst 2 _ 25 rfl rfl; have e26 : Fr.tmps[26]? = some (vu) := hEA.dst 3 _ 26 rfl rfl; simp [e25, e26, go_sem]) ?_
              intro w' hw
              refine ((show Calls _ _ _ _ (fun e W' => e = .returned (.bool true) ∧ Below w'.heap.size w' W') from by have := sameS_any _ _ (spo (withoutO (n1, n2) (withoutO (m1, m2) ot))) (spo (withoutO (n1, n2) (withoutO (m1, m2) ot))) w' (keeps_spots _ _ _ _ _ _ HV.out hw.1 hw.1.size) (keeps_spots _ _ _ _ _ _ HU.out hw.1 hw.1.size) hl2; rwa [show decide ((spo (withoutO (n1, n2) (withoutO (m1, m2) ot))) = (spo (withoutO (n1, n2) (withoutO (m1, m2) ot)))) = true from decide_eq_true rfl] at this)).mono ?_
              rintro e w2 ⟨rfl, hb⟩
              exact ⟨_, rfl, fun r' hr hv => ⟨rfl, ⟨hw.1.trans (hb.mono hw.1.size), fun h => absurd h (by decide), fun h => absurd h (by decide), fun h => absurd h (by decide), fun h => absurd h (by decide), fun h => absurd h (by decide)⟩⟩⟩
            · refine obR_val (want_none rfl) (by kernel_rfl) (fun ph w' hp hpm hw => ?_)
              have e24 : Fr.tmps[24]? = some (.bool true) := hEA.dst 1 _ 24 rfl rfl; have e27 : Fr.tmps[27]? = some (.bool true) := hEA.dst 4 _ 27 rfl rfl; simp [execOp, e24, e27, go_sem]
            · exact obR_move _ rfl (want_none rfl) (by kernel_rfl) (eval_dst hEA (j := 5) rfl rfl)
            · exact obR_move _ rfl (want_is hEA (g := 6) (x := true) (b := true) rfl rfl rfl rfl) (by kernel_rfl) (eval_out hEA (d := 0) (by kernel_rfl))
            · exact obR_move _ rfl (want_is hEA (g := 6) (x := true) (b := true) rfl rfl rfl rfl) (by kernel_rfl) (eval_out hEA (d := 0) (by kernel_rfl))
            · refine obR_call (q := 2) (f := 15) (args := #[.slice A (spo ot).length ca]) (want_is hEA (g := 6) (x := true) (b := true) rfl rfl rfl rfl) (by kernel_rfl) (fun w' => by have e31 : Fr.tmps[31]? = some (.slice A (spo ot).length ca) := hEA.dst 8 _ 31 rfl rfl; simp [e31, go_sem]) ?_
              intro w' hw
              refine (refLeaves_any _ (spo ot) w' (keeps_spots _ _ _ _ _ _ HX.out hw.1 hw.1.size) (by omega)).mono ?_
              rintro e w2 ⟨v', rfl, hs, hb⟩
              exact ⟨_, rfl, fun r' hr hv => ⟨hv, ⟨hw.1.trans (hb.mono hw.1.size), fun _ => by rw [hv]; exact hs, fun h => absurd h (by decide), fun h => absurd h (by decide), fun h => absurd h (by decide), fun h => absurd h (by decide)⟩⟩⟩
            · refine obR_call (q := 3) (f := 11) (args := #[.slice A (spo ot).length ca, (r 2)]) (want_is hEA (g := 6) (x := true) (b := true) rfl rfl rfl rfl) (by kernel_rfl) (fun w' => by have e30 : Fr.tmps[30]? = some (.slice A (spo ot).length ca) := hEA.dst 7 _ 30 rfl rfl; have e32 : Fr.tmps[32]? = some ((r 2)) := hEA.dst 9 _ 32 rfl rfl; simp [e30, e32, go_sem]) ?_
              intro w' hw
              refine ((show Calls _ _ _ _ (fun e W' => ∃ v', e = .returned v' ∧ Spots W'.heap.size W' (spo ot) [v'] ∧ Below w'.heap.size w' W') from by have := pOnly_any _ (r 2) ot (lv (spo ot)) w' (keeps_spots _ _ _ _ _ _ HX.out hw.1 hw.1.size) (hw.2.1 (by decide)) hok hsl; rwa [HAL.out] at this)).mono ?_
              rintro e w2 ⟨v', rfl, hs, hb⟩
              exact ⟨_, rfl, fun r' hr hv => ⟨hv, ⟨hw.1.trans (hb.mono hw.1.size), fun _ => by rw [hr 2 (by decide)]; exact keeps_mems _ _ _ _ _ _ (hw.2.1 (by decide)) hb hb.size, fun _ => by rw [hv]; exact hs, fun h => absurd h (by decide), fun h => absurd h (by decide), fun h => absurd h (by decide)⟩⟩⟩
            · exact obR_move _ rfl (want_is hEA (g := 6) (x := true) (b := true) rfl rfl rfl rfl) (by kernel_rfl) (eval_out hEA (d := 0) (by kernel_rfl))
            · refine obR_call (q := 4) (f := 10) (args := #[(r 3), .slice A (spo ot).length ca]) (want_is hEA (g := 6) (x := true) (b := true) rfl rfl rfl rfl) (by kernel_rfl) (fun w' => by have e33 : Fr.tmps[33]? = some ((r 3)) := hEA.dst 10 _ 33 rfl rfl; have e34 : Fr.tmps[34]? = some (.slice A (spo ot).length ca) := hEA.dst 11 _ 34 rfl rfl; simp [e33, e34, go_sem]) ?_
              intro w' hw
              refine ((show Calls _ _ _ _ (fun e W' => e = .returned (.bool true) ∧ Below w'.heap.size w' W') from by have := sameS_any (r 3) _ (spo ot) (spo ot) w' (hw.2.2.1 (by decide)) (keeps_spots _ _ _ _ _ _ HX.out hw.1 hw.1.size) (by omega); rwa [show decide ((spo ot) = (spo ot)) = true from decide_eq_true rfl] at this)).mono ?_
              rintro e w2 ⟨rfl, hb⟩
              exact ⟨_, rfl, fun r' hr hv => ⟨rfl, ⟨hw.1.trans (hb.mono hw.1.size), fun _ => by rw [hr 2 (by decide)]; exact keeps_mems _ _ _ _ _ _ (hw.2.1 (by decide)) hb hb.size, fun _ => by rw [hr 3 (by decide)]; exact keeps_spots _ _ _ _ _ _ (hw.2.2.1 (by decide)) hb hb.size, fun h => absurd h (by decide), fun h => absurd h (by decide), fun h => absurd h (by decide)⟩⟩⟩
            · refine obR_val (want_none rfl) (by kernel_rfl) (fun ph w' hp hpm hw => ?_)
              have e29 : Fr.tmps[29]? = some (.bool true) := hEA.dst 6 _ 29 rfl rfl; have e35 : Fr.tmps[35]? = some (.bool true) := hEA.dst 12 _ 35 rfl rfl; simp [execOp, e29, e35, go_sem]
            · exact obR_move _ rfl (want_none rfl) (by kernel_rfl) (eval_dst hEA (j := 13) rfl rfl)
            · exact obR_move _ rfl (want_is hEA (g := 14) (x := true) (b := true) rfl rfl rfl rfl) (by kernel_rfl) (eval_out hEA (d := 7) (by kernel_rfl))
            · refine obR_call (q := 5) (f := 15) (args := #[vv]) (want_is hEA (g := 14) (x := true) (b := true) rfl rfl rfl rfl) (by kernel_rfl) (fun w' => by have e38 : Fr.tmps[38]? = some (vv) := hEA.dst 15 _ 38 rfl rfl; simp [e38, go_sem]) ?_
              intro w' hw
              refine (refLeaves_any _ (spo (withoutO (n1, n2) (withoutO (m1, m2) ot))) w' (keeps_spots _ _ _ _ _ _ HV.out hw.1 hw.1.size) hl2).mono ?_
              rintro e w2 ⟨v', rfl, hs, hb⟩
              exact ⟨_, rfl, fun r' hr hv => ⟨hv, ⟨hw.1.trans (hb.mono hw.1.size), fun _ => by rw [hr 2 (by decide)]; exact keeps_mems _ _ _ _ _ _ (hw.2.1 (by decide)) hb hb.size, fun _ => by rw [hr 3 (by decide)]; exact keeps_spots _ _ _ _ _ _ (hw.2.2.1 (by decide)) hb hb.size, fun _ => by rw [hv]; exact hs, fun h => absurd h (by decide), fun h => absurd h (by decide)⟩⟩⟩
            · refine obR_val (want_is hEA (g := 14) (x := true) (b := true) rfl rfl rfl rfl) (by kernel_rfl) (fun ph w' hp hpm hw => ?_)
              have hc0 := (hw.1.cell (p := ⟨w.heap.size, 0, none⟩) b0.lt).trans (b0.c 0 _ rfl)
              have hc1 := (hw.1.cell (p := ⟨w.heap.size, 1, none⟩) b0.lt).trans (b0.c 1 _ rfl)
              have e4 : Fr.tmps[4]? = some (.pointer (some ⟨w.heap.size, 0, none⟩)) := at_out hEA (d := 4) (by kernel_rfl); simp [execOp, e4, hc0, hc1, go_sem]
            · refine obR_call (q := 6) (f := 16) (args := #[(r 5), .agg #[.int .i64 m1, .int .i64 m2]]) (want_is hEA (g := 14) (x := true) (b := true) rfl rfl rfl rfl) (by kernel_rfl) (fun w' => by have e39 : Fr.tmps[39]? = some ((r 5)) := hEA.dst 16 _ 39 rfl rfl; have e40 : Fr.tmps[40]? = some (.agg #[.int .i64 m1, .int .i64 m2]) := hEA.dst 17 _ 40 rfl rfl; simp [e39, e40, go_sem]) ?_
              intro w' hw
              refine ((show Calls _ _ _ _ (fun e W' => e = .returned (.bool false) ∧ Below w'.heap.size w' W') from by have := refHas_any (r 5) (lv (spo (withoutO (n1, n2) (withoutO (m1, m2) ot)))) m1 m2 w' (hw.2.2.2.1 (by decide)); rwa [HNI.out] at this)).mono ?_
              rintro e w2 ⟨rfl, hb⟩
              exact ⟨_, rfl, fun r' hr hv => ⟨rfl, ⟨hw.1.trans (hb.mono hw.1.size), fun _ => by rw [hr 2 (by decide)]; exact keeps_mems _ _ _ _ _ _ (hw.2.1 (by decide)) hb hb.size, fun _ => by rw [hr 3 (by decide)]; exact keeps_spots _ _ _ _ _ _ (hw.2.2.1 (by decide)) hb hb.size, fun _ => by rw [hr 5 (by decide)]; exact keeps_mems _ _ _ _ _ _ (hw.2.2.2.1 (by decide)) hb hb.size, fun h => absurd h (by decide), fun h => absurd h (by decide)⟩⟩⟩
            · refine obR_val (want_is hEA (g := 14) (x := true) (b := true) rfl rfl rfl rfl) (by kernel_rfl) (fun ph w' hp hpm hw => ?_)
              have e41 : Fr.tmps[41]? = some (.bool false) := hEA.dst 18 _ 41 rfl rfl; simp [execOp, e41, go_sem]
            · refine obR_val (want_none rfl) (by kernel_rfl) (fun ph w' hp hpm hw => ?_)
              have e37 : Fr.tmps[37]? = some (.bool true) := hEA.dst 14 _ 37 rfl rfl; have e42 : Fr.tmps[42]? = some (.bool true) := hEA.dst 19 _ 42 rfl rfl; simp [execOp, e37, e42, go_sem]
            · exact obR_move _ rfl (want_none rfl) (by kernel_rfl) (eval_dst hEA (j := 20) rfl rfl)
            · exact obR_move _ rfl (want_is hEA (g := 21) (x := true) (b := true) rfl rfl rfl rfl) (by kernel_rfl) (eval_out hEA (d := 0) (by kernel_rfl))
            · refine obR_call (q := 7) (f := 15) (args := #[.slice A (spo ot).length ca]) (want_is hEA (g := 21) (x := true) (b := true) rfl rfl rfl rfl) (by kernel_rfl) (fun w' => by have e45 : Fr.tmps[45]? = some (.slice A (spo ot).length ca) := hEA.dst 22 _ 45 rfl rfl; simp [e45, go_sem]) ?_
              intro w' hw
              refine (refLeaves_any _ (spo ot) w' (keeps_spots _ _ _ _ _ _ HX.out hw.1 hw.1.size) (by omega)).mono ?_
              rintro e w2 ⟨v', rfl, hs, hb⟩
              exact ⟨_, rfl, fun r' hr hv => ⟨hv, ⟨hw.1.trans (hb.mono hw.1.size), fun _ => by rw [hr 2 (by decide)]; exact keeps_mems _ _ _ _ _ _ (hw.2.1 (by decide)) hb hb.size, fun _ => by rw [hr 3 (by decide)]; exact keeps_spots _ _ _ _ _ _ (hw.2.2.1 (by decide)) hb hb.size, fun _ => by rw [hr 5 (by decide)]; exact keeps_mems _ _ _ _ _ _ (hw.2.2.2.1 (by decide)) hb hb.size, fun _ => by rw [hv]; exact hs, fun h => absurd h (by decide)⟩⟩⟩
            · refine obR_val (want_is hEA (g := 21) (x := true) (b := true) rfl rfl rfl rfl) (by kernel_rfl) (fun ph w' hp hpm hw => ?_)
              have hc0 := (hw.1.cell (p := ⟨w.heap.size, 0, none⟩) b0.lt).trans (b0.c 0 _ rfl)
              have hc1 := (hw.1.cell (p := ⟨w.heap.size, 1, none⟩) b0.lt).trans (b0.c 1 _ rfl)
              have e4 : Fr.tmps[4]? = some (.pointer (some ⟨w.heap.size, 0, none⟩)) := at_out hEA (d := 4) (by kernel_rfl); simp [execOp, e4, hc0, hc1, go_sem]
            · refine obR_call (q := 8) (f := 16) (args := #[(r 7), .agg #[.int .i64 m1, .int .i64 m2]]) (want_is hEA (g := 21) (x := true) (b := true) rfl rfl rfl rfl) (by kernel_rfl) (fun w' => by have e46 : Fr.tmps[46]? = some ((r 7)) := hEA.dst 23 _ 46 rfl rfl; have e47 : Fr.tmps[47]? = some (.agg #[.int .i64 m1, .int .i64 m2]) := hEA.dst 24 _ 47 rfl rfl; simp [e46, e47, go_sem]) ?_
              intro w' hw
              refine ((show Calls _ _ _ _ (fun e W' => e = .returned (.bool false) ∧ Below w'.heap.size w' W') from by have := refHas_any (r 7) (lv (spo ot)) m1 m2 w' (hw.2.2.2.2.1 (by decide)); rwa [HIN.out] at this)).mono ?_
              rintro e w2 ⟨rfl, hb⟩
              exact ⟨_, rfl, fun r' hr hv => ⟨rfl, ⟨hw.1.trans (hb.mono hw.1.size), fun _ => by rw [hr 2 (by decide)]; exact keeps_mems _ _ _ _ _ _ (hw.2.1 (by decide)) hb hb.size, fun _ => by rw [hr 3 (by decide)]; exact keeps_spots _ _ _ _ _ _ (hw.2.2.1 (by decide)) hb hb.size, fun _ => by rw [hr 5 (by decide)]; exact keeps_mems _ _ _ _ _ _ (hw.2.2.2.1 (by decide)) hb hb.size, fun _ => by rw [hr 7 (by decide)]; exact keeps_mems _ _ _ _ _ _ (hw.2.2.2.2.1 (by decide)) hb hb.size, fun h => absurd h (by decide)⟩⟩⟩
            · exact obR_move _ rfl (want_is hEA (g := 21) (x := true) (b := true) rfl rfl rfl rfl) (by kernel_rfl) (eval_dst hEA (j := 25) rfl rfl)
            · exact obR_move _ rfl (want_is hEA (g := 26) (x := false) (b := false) rfl rfl rfl rfl) (by kernel_rfl) (eval_out hEA (d := 0) (by kernel_rfl))
            · refine obR_val (want_is hEA (g := 26) (x := false) (b := false) rfl rfl rfl rfl) (by kernel_rfl) (fun ph w' hp hpm hw => ?_)
              have hc0 := (hw.1.cell (p := ⟨w.heap.size, 0, none⟩) b0.lt).trans (b0.c 0 _ rfl)
              have hc1 := (hw.1.cell (p := ⟨w.heap.size, 1, none⟩) b0.lt).trans (b0.c 1 _ rfl)
              have e4 : Fr.tmps[4]? = some (.pointer (some ⟨w.heap.size, 0, none⟩)) := at_out hEA (d := 4) (by kernel_rfl); simp [execOp, e4, hc0, hc1, go_sem]
            · refine obR_call (q := 9) (f := 13) (args := #[.slice A (spo ot).length ca, .agg #[.int .i64 m1, .int .i64 m2]]) (want_is hEA (g := 26) (x := false) (b := false) rfl rfl rfl rfl) (by kernel_rfl) (fun w' => by have e50 : Fr.tmps[50]? = some (.slice A (spo ot).length ca) := hEA.dst 27 _ 50 rfl rfl; have e51 : Fr.tmps[51]? = some (.agg #[.int .i64 m1, .int .i64 m2]) := hEA.dst 28 _ 51 rfl rfl; simp [e50, e51, go_sem]) ?_
              intro w' hw
              refine ((show Calls _ _ _ _ (fun e W' => ∃ v', e = .returned v' ∧ Spots W'.heap.size W' (spo ot) [v'] ∧ Below w'.heap.size w' W') from by have := pWithout_any _ ot m1 m2 w' (keeps_spots _ _ _ _ _ _ HX.out hw.1 hw.1.size) hok; rwa [HSA.out] at this)).mono ?_
              rintro e w2 ⟨v', rfl, hs, hb⟩
              exact ⟨_, rfl, fun r' hr hv => ⟨hv, ⟨hw.1.trans (hb.mono hw.1.size), fun _ => by rw [hr 2 (by decide)]; exact keeps_mems _ _ _ _ _ _ (hw.2.1 (by decide)) hb hb.size, fun _ => by rw [hr 3 (by decide)]; exact keeps_spots _ _ _ _ _ _ (hw.2.2.1 (by decide)) hb hb.size, fun _ => by rw [hr 5 (by decide)]; exact keeps_mems _ _ _ _ _ _ (hw.2.2.2.1 (by decide)) hb hb.size, fun _ => by rw [hr 7 (by decide)]; exact keeps_mems _ _ _ _ _ _ (hw.2.2.2.2.1 (by decide)) hb hb.size, fun _ => by rw [hv]; exact hs⟩⟩⟩
            · exact obR_move _ rfl (want_is hEA (g := 26) (x := false) (b := false) rfl rfl rfl rfl) (by kernel_rfl) (eval_out hEA (d := 0) (by kernel_rfl))
            · refine obR_call (q := 10) (f := 10) (args := #[(r 9), .slice A (spo ot).length ca]) (want_is hEA (g := 26) (x := false) (b := false) rfl rfl rfl rfl) (by kernel_rfl) (fun w' => by have e52 : Fr.tmps[52]? = some ((r 9)) := hEA.dst 29 _ 52 rfl rfl; have e53 : Fr.tmps[53]? = some (.slice A (spo ot).length ca) := hEA.dst 30 _ 53 rfl rfl; simp [e52, e53, go_sem]) ?_
              intro w' hw
              refine ((show Calls _ _ _ _ (fun e W' => e = .returned (.bool true) ∧ Below w'.heap.size w' W') from by have := sameS_any (r 9) _ (spo ot) (spo ot) w' (hw.2.2.2.2.2 (by decide)) (keeps_spots _ _ _ _ _ _ HX.out hw.1 hw.1.size) (by omega); rwa [show decide ((spo ot) = (spo ot)) = true from decide_eq_true rfl] at this)).mono ?_
              rintro e w2 ⟨rfl, hb⟩
              exact ⟨_, rfl, fun r' hr hv => ⟨rfl, ⟨hw.1.trans (hb.mono hw.1.size), fun _ => by rw [hr 2 (by decide)]; exact keeps_mems _ _ _ _ _ _ (hw.2.1 (by decide)) hb hb.size, fun _ => by rw [hr 3 (by decide)]; exact keeps_spots _ _ _ _ _ _ (hw.2.2.1 (by decide)) hb hb.size, fun _ => by rw [hr 5 (by decide)]; exact keeps_mems _ _ _ _ _ _ (hw.2.2.2.1 (by decide)) hb hb.size, fun _ => by rw [hr 7 (by decide)]; exact keeps_mems _ _ _ _ _ _ (hw.2.2.2.2.1 (by decide)) hb hb.size, fun _ => by rw [hr 9 (by decide)]; exact keeps_spots _ _ _ _ _ _ (hw.2.2.2.2.2 (by decide)) hb hb.size⟩⟩⟩
            · refine obR_val (want_is hEA (g := 21) (x := true) (b := true) rfl rfl rfl rfl) (by kernel_rfl) (fun ph w' hp hpm hw => ?_)
              have e49 : Fr.tmps[49]? = some (.bool false) := hEA.dst 26 _ 49 rfl rfl; have e54 : Fr.tmps[54]? = some (.bool true) := hEA.dst 31 _ 54 rfl rfl; simp [execOp, e49, e54, go_sem]
            · refine obR_val (want_none rfl) (by kernel_rfl) (fun ph w' hp hpm hw => ?_)
              have e44 : Fr.tmps[44]? = some (.bool true) := hEA.dst 21 _ 44 rfl rfl; have e55 : Fr.tmps[55]? = some (.bool true) := hEA.dst 32 _ 55 rfl rfl; simp [execOp, e44, e55, go_sem]
            · refine obR_val (want_none rfl) (by kernel_rfl) (fun ph w' hp hpm hw => ?_)
              have e56 : Fr.tmps[56]? = some (.bool true) := hEA.dst 33 _ 56 rfl rfl; simp [execOp, e56, go_sem]
          · intro r w' hw
            simp only [laid, Act.put, List.setIfInBounds_toArray, List.set_cons_succ, List.set_cons_zero, List.getD_cons_succ, List.getD_cons_zero, Nat.zero_add, Nat.reduceAdd]
            go_wp2
            go_ret
            exact ⟨rfl, B.trans (hw.1.mono B.size)⟩
        · have HIN := Lib.hid hin
          clear hin
          go_wp2_with fail
          refine wp_region_results (fun r i => ([.bool true, .bool true, vv, vu, .bool true, .bool true, .bool true, .slice A (spo ot).length ca, .slice A (spo ot).length ca, (r 2), (r 3), .slice A (spo ot).length ca, .bool true, .bool true, .bool true, vv, (r 5), .agg #[.int .i64 m1, .int .i64 m2], .bool false, .bool true, .bool true, .bool true, .slice A (spo ot).length ca, (r 7), .agg #[.int .i64 m1, .int .i64 m2], .bool true, .bool true, undef, undef, undef, undef, undef, .bool true, .bool true, .bool true] : List Value).getD i undef) [0, 4, 9, 10, 12, 16, 18, 23, 25] [0, 1, 1, 1, 1, 2, 2, 2, 2, 2, 3, 2, 4, 5, 5, 5, 5, 5, 6, 7, 7, 7, 7, 7, 7, 8, 9, 9, 9, 9, 9, 9, 9, 9, 9] (fun r q w' => (Below W4.heap.size W4 w') ∧ (2 < q → Mems w'.heap.size w' (lv (spo ot)) [(r 2)]) ∧ (3 < q → Spots w'.heap.size w' (spo ot) [(r 3)]) ∧ (5 < q → Mems w'.heap.size w' (lv (spo (withoutO (n1, n2) (withoutO (m1, m2) ot)))) [(r 5)]) ∧ (7 < q → Mems w'.heap.size w' (lv (spo ot)) [(r 7)])) (by kernel_rfl) (by kernel_rfl) (fun r => ⟨⟨rfl, rfl, rfl, Nat.le_refl _, fun _ _ => rfl⟩, fun h => absurd h (Nat.not_lt_zero _), fun h => absurd h (Nat.not_lt_zero _), fun h => absurd h (Nat.not_lt_zero _), fun h => absurd h (Nat.not_lt_zero _)⟩) ?_ ?_
          · refine ObsR_of_ends (by kernel_rfl) ?_
            intro r Fr hEA
            refine ⟨?_, ?_, ?_, ?_, ?_, ?_, ?_, ?_, ?_, ?_, ?_, ?_, ?_, ?_, ?_, ?_, ?_, ?_, ?_, ?_, ?_, ?_, ?_, ?_, ?_, ?_, ?_, ?_, ?_, ?_, ?_, ?_, ?_, ?_, ?_, trivial⟩
            · refine obR_call (q := 0) (f := 9) (args := #[]) (want_none rfl) (by kernel_rfl) (fun w' => by simp [go_sem]) ?_
              intro w' hw
              refine (awake11_any w').mono ?_
              rintro e w2 ⟨rfl, hb⟩
              exact ⟨_, rfl, fun r' hr hv => ⟨rfl, ⟨hw.1.trans (hb.mono hw.1.size), fun h => absurd h (by decide), fun h => absurd h (by decide), fun h => absurd h (by decide), fun h => absurd h (by decide)⟩⟩⟩
            · exact obR_move _ rfl (want_none rfl) (by kernel_rfl) (eval_dst hEA (j := 0) rfl rfl)
            · exact obR_move _ rfl (want_is hEA (g := 1) (x := true) (b := true) rfl rfl rfl rfl) (by kernel_rfl) (eval_out hEA (d := 7) (by kernel_rfl))
            · exact obR_move _ rfl (want_is hEA (g := 1) (x := true) (b := true) rfl rfl rfl rfl) (by kernel_rfl) (eval_out hEA (d := 8) (by kernel_rfl))
            · refine obR_call (q := 1) (f := 10) (args := #[vv, vu]) (want_is hEA (g := 1) (x := true) (b := true) rfl rfl rfl rfl) (by kernel_rfl) (fun w' => by have e25 : Fr.tmps[25]? = some (vv) := hEA.dst 2 _ 25 rfl rfl; have e26 : Fr.tmps[26]? = some (vu) := hEA.dst 3 _ 26 rfl rfl; simp [e25, e26, go_sem]) ?_
              intro w' hw
              refine ((show Calls _ _ _ _ (fun e W' => e = .returned (.bool true) ∧ Below w'.heap.size w' W') from by have := sameS_any _ _ (spo (withoutO (n1, n2) (withoutO (m1, m2) ot))) (spo (withoutO (n1, n2) (withoutO (m1, m2) ot))) w' (keeps_spots _ _ _ _ _ _ HV.out hw.1 hw.1.size) (keeps_spots _ _ _ _ _ _ HU.out hw.1 hw.1.size) hl2; rwa [show decide ((spo (withoutO (n1, n2) (withoutO (m1, m2) ot))) = (spo (withoutO (n1, n2) (withoutO (m1, m2) ot)))) = true from decide_eq_true rfl] at this)).mono ?_
              rintro e w2 ⟨rfl, hb⟩
              exact ⟨_, rfl, fun r' hr hv => ⟨rfl, ⟨hw.1.trans (hb.mono hw.1.size), fun h => absurd h (by decide), fun h => absurd h (by decide), fun h => absurd h (by decide), fun h => absurd h (by decide)⟩⟩⟩
            · refine obR_val (want_none rfl) (by kernel_rfl) (fun ph w' hp hpm hw => ?_)
              have e24 : Fr.tmps[24]? = some (.bool true) := hEA.dst 1 _ 24 rfl rfl; have e27 : Fr.tmps[27]? = some (.bool true) := hEA.dst 4 _ 27 rfl rfl; simp [execOp, e24, e27, go_sem]
            · exact obR_move _ rfl (want_none rfl) (by kernel_rfl) (eval_dst hEA (j := 5) rfl rfl)
            · exact obR_move _ rfl (want_is hEA (g := 6) (x := true) (b := true) rfl rfl rfl rfl) (by kernel_rfl) (eval_out hEA (d := 0) (by kernel_rfl))
            · exact obR_move _ rfl (want_is hEA (g := 6) (x := true) (b := true) rfl rfl rfl rfl) (by kernel_rfl) (eval_out hEA (d := 0) (by kernel_rfl))
            · refine obR_call (q := 2) (f := 15) (args := #[.slice A (spo ot).length ca]) (want_is hEA (g := 6) (x := true) (b := true) rfl rfl rfl rfl) (by kernel_rfl) (fun w' => by have e31 : Fr.tmps[31]? = some (.slice A (spo ot).length ca) := hEA.dst 8 _ 31 rfl rfl; simp [e31, go_sem]) ?_
              intro w' hw
              refine (refLeaves_any _ (spo ot) w' (keeps_spots _ _ _ _ _ _ HX.out hw.1 hw.1.size) (by omega)).mono ?_
              rintro e w2 ⟨v', rfl, hs, hb⟩
              exact ⟨_, rfl, fun r' hr hv => ⟨hv, ⟨hw.1.trans (hb.mono hw.1.size), fun _ => by rw [hv]; exact hs, fun h => absurd h (by decide), fun h => absurd h (by decide), fun h => absurd h (by decide)⟩⟩⟩
            · refine obR_call (q := 3) (f := 11) (args := #[.slice A (spo ot).length ca, (r 2)]) (want_is hEA (g := 6) (x := true) (b := true) rfl rfl rfl rfl) (by kernel_rfl) (fun w' => by have e30 : Fr.tmps[30]? = some (.slice A (spo ot).length ca) := hEA.dst 7 _ 30 rfl rfl; have e32 : Fr.tmps[32]? = some ((r 2)) := hEA.dst 9 _ 32 rfl rfl; simp [e30, e32, go_sem]) ?_
              intro w' hw
              refine ((show Calls _ _ _ _ (fun e W' => ∃ v', e = .returned v' ∧ Spots W'.heap.size W' (spo ot) [v'] ∧ Below w'.heap.size w' W') from by have := pOnly_any _ (r 2) ot (lv (spo ot)) w' (keeps_spots _ _ _ _ _ _ HX.out hw.1 hw.1.size) (hw.2.1 (by decide)) hok hsl; rwa [HAL.out] at this)).mono ?_
              rintro e w2 ⟨v', rfl, hs, hb⟩
              exact ⟨_, rfl, fun r' hr hv => ⟨hv, ⟨hw.1.trans (hb.mono hw.1.size), fun _ => by rw [hr 2 (by decide)]; exact keeps_mems _ _ _ _ _ _ (hw.2.1 (by decide)) hb hb.size, fun _ => by rw [hv]; exact hs, fun h => absurd h (by decide), fun h => absurd h (by decide)⟩⟩⟩
            · exact obR_move _ rfl (want_is hEA (g := 6) (x := true) (b := true) rfl rfl rfl rfl) (by kernel_rfl) (eval_out hEA (d := 0) (by kernel_rfl))
            · refine obR_call (q := 4) (f := 10) (args := #[(r 3), .slice A (spo ot).length ca]) (want_is hEA (g := 6) (x := true) (b := true) rfl rfl rfl rfl) (by kernel_rfl) (fun w' => by have e33 : Fr.tmps[33]? = some ((r 3)) := hEA.dst 10 _ 33 rfl rfl; have e34 : Fr.tmps[34]? = some (.slice A (spo ot).length ca) := hEA.dst 11 _ 34 rfl rfl; simp [e33, e34, go_sem]) ?_
              intro w' hw
              refine ((show Calls _ _ _ _ (fun e W' => e = .returned (.bool true) ∧ Below w'.heap.size w' W') from by have := sameS_any (r 3) _ (spo ot) (spo ot) w' (hw.2.2.1 (by decide)) (keeps_spots _ _ _ _ _ _ HX.out hw.1 hw.1.size) (by omega); rwa [show decide ((spo ot) = (spo ot)) = true from decide_eq_true rfl] at this)).mono ?_
              rintro e w2 ⟨rfl, hb⟩
              exact ⟨_, rfl, fun r' hr hv => ⟨rfl, ⟨hw.1.trans (hb.mono hw.1.size), fun _ => by rw [hr 2 (by decide)]; exact keeps_mems _ _ _ _ _ _ (hw.2.1 (by decide)) hb hb.size, fun _ => by rw [hr 3 (by decide)]; exact keeps_spots _ _ _ _ _ _ (hw.2.2.1 (by decide)) hb hb.size, fun h => absurd h (by decide), fun h => absurd h (by decide)⟩⟩⟩
            · refine obR_val (want_none rfl) (by kernel_rfl) (fun ph w' hp hpm hw => ?_)
              have e29 : Fr.tmps[29]? = some (.bool true) := hEA.dst 6 _ 29 rfl rfl; have e35 : Fr.tmps[35]? = some (.bool true) := hEA.dst 12 _ 35 rfl rfl; simp [execOp, e29, e35, go_sem]
            · exact obR_move _ rfl (want_none rfl) (by kernel_rfl) (eval_dst hEA (j := 13) rfl rfl)
            · exact obR_move _ rfl (want_is hEA (g := 14) (x := true) (b := true) rfl rfl rfl rfl) (by kernel_rfl) (eval_out hEA (d := 7) (by kernel_rfl))
            · refine obR_call (q := 5) (f := 15) (args := #[vv]) (want_is hEA (g := 14) (x := true) (b := true) rfl rfl rfl rfl) (by kernel_rfl) (fun w' => by have e38 : Fr.tmps[38]? = some (vv) := hEA.dst 15 _ 38 rfl rfl; simp [e38, go_sem]) ?_
              intro w' hw
              refine (refLeaves_any _ (spo (withoutO (n1, n2) (withoutO (m1, m2) ot))) w' (keeps_spots _ _ _ _ _ _ HV.out hw.1 hw.1.size) hl2).mono ?_
              rintro e w2 ⟨v', rfl, hs, hb⟩
              exact ⟨_, rfl, fun r' hr hv => ⟨hv, ⟨hw.1.trans (hb.mono hw.1.size), fun _ => by rw [hr 2 (by decide)]; exact keeps_mems _ _ _ _ _ _ (hw.2.1 (by decide)) hb hb.size, fun _ => by rw [hr 3 (by decide)]; exact keeps_spots _ _ _ _ _ _ (hw.2.2.1 (by decide)) hb hb.size, fun _ => by rw [hv]; exact hs, fun h => absurd h (by decide)⟩⟩⟩
            · refine obR_val (want_is hEA (g := 14) (x := true) (b := true) rfl rfl rfl rfl) (by kernel_rfl) (fun ph w' hp hpm hw => ?_)
              have hc0 := (hw.1.cell (p := ⟨w.heap.size, 0, none⟩) b0.lt).trans (b0.c 0 _ rfl)
              have hc1 := (hw.1.cell (p := ⟨w.heap.size, 1, none⟩) b0.lt).trans (b0.c 1 _ rfl)
              have e4 : Fr.tmps[4]? = some (.pointer (some ⟨w.heap.size, 0, none⟩)) := at_out hEA (d := 4) (by kernel_rfl); simp [execOp, e4, hc0, hc1, go_sem]
            · refine obR_call (q := 6) (f := 16) (args := #[(r 5), .agg #[.int .i64 m1, .int .i64 m2]]) (want_is hEA (g := 14) (x := true) (b := true) rfl rfl rfl rfl) (by kernel_rfl) (fun w' => by have e39 : Fr.tmps[39]? = some ((r 5)) := hEA.dst 16 _ 39 rfl rfl; have e40 : Fr.tmps[40]? = some (.agg #[.int .i64 m1, .int .i64 m2]) := hEA.dst 17 _ 40 rfl rfl; simp [e39, e40, go_sem]) ?_
              intro w' hw
              refine ((show Calls _ _ _ _ (fun e W' => e = .returned (.bool false) ∧ Below w'.heap.size w' W') from by have := refHas_any (r 5) (lv (spo (withoutO (n1, n2) (withoutO (m1, m2) ot)))) m1 m2 w' (hw.2.2.2.1 (by decide)); rwa [HNI.out] at this)).mono ?_
              rintro e w2 ⟨rfl, hb⟩
              exact ⟨_, rfl, fun r' hr hv => ⟨rfl, ⟨hw.1.trans (hb.mono hw.1.size), fun _ => by rw [hr 2 (by decide)]; exact keeps_mems _ _ _ _ _ _ (hw.2.1 (by decide)) hb hb.size, fun _ => by rw [hr 3 (by decide)]; exact keeps_spots _ _ _ _ _ _ (hw.2.2.1 (by decide)) hb hb.size, fun _ => by rw [hr 5 (by decide)]; exact keeps_mems _ _ _ _ _ _ (hw.2.2.2.1 (by decide)) hb hb.size, fun h => absurd h (by decide)⟩⟩⟩
            · refine obR_val (want_is hEA (g := 14) (x := true) (b := true) rfl rfl rfl rfl) (by kernel_rfl) (fun ph w' hp hpm hw => ?_)
              have e41 : Fr.tmps[41]? = some (.bool false) := hEA.dst 18 _ 41 rfl rfl; simp [execOp, e41, go_sem]
            · refine obR_val (want_none rfl) (by kernel_rfl) (fun ph w' hp hpm hw => ?_)
              have e37 : Fr.tmps[37]? = some (.bool true) := hEA.dst 14 _ 37 rfl rfl; have e42 : Fr.tmps[42]? = some (.bool true) := hEA.dst 19 _ 42 rfl rfl; simp [execOp, e37, e42, go_sem]
            · exact obR_move _ rfl (want_none rfl) (by kernel_rfl) (eval_dst hEA (j := 20) rfl rfl)
            · exact obR_move _ rfl (want_is hEA (g := 21) (x := true) (b := true) rfl rfl rfl rfl) (by kernel_rfl) (eval_out hEA (d := 0) (by kernel_rfl))
            · refine obR_call (q := 7) (f := 15) (args := #[.slice A (spo ot).length ca]) (want_is hEA (g := 21) (x := true) (b := true) rfl rfl rfl rfl) (by kernel_rfl) (fun w' => by have e45 : Fr.tmps[45]? = some (.slice A (spo ot).length ca) := hEA.dst 22 _ 45 rfl rfl; simp [e45, go_sem]) ?_
              intro w' hw
              refine (refLeaves_any _ (spo ot) w' (keeps_spots _ _ _ _ _ _ HX.out hw.1 hw.1.size) (by omega)).mono ?_
              rintro e w2 ⟨v', rfl, hs, hb⟩
              exact ⟨_, rfl, fun r' hr hv => ⟨hv, ⟨hw.1.trans (hb.mono hw.1.size), fun _ => by rw [hr 2 (by decide)]; exact keeps_mems _ _ _ _ _ _ (hw.2.1 (by decide)) hb hb.size, fun _ => by rw [hr 3 (by decide)]; exact keeps_spots _ _ _ _ _ _ (hw.2.2.1 (by decide)) hb hb.size, fun _ => by rw [hr 5 (by decide)]; exact keeps_mems _ _ _ _ _ _ (hw.2.2.2.1 (by decide)) hb hb.size, fun _ => by rw [hv]; exact hs⟩⟩⟩
            · refine obR_val (want_is hEA (g := 21) (x := true) (b := true) rfl rfl rfl rfl) (by kernel_rfl) (fun ph w' hp hpm hw => ?_)
              have hc0 := (hw.1.cell (p := ⟨w.heap.size, 0, none⟩) b0.lt).trans (b0.c 0 _ rfl)
              have hc1 := (hw.1.cell (p := ⟨w.heap.size, 1, none⟩) b0.lt).trans (b0.c 1 _ rfl)
              have e4 : Fr.tmps[4]? = some (.pointer (some ⟨w.heap.size, 0, none⟩)) := at_out hEA (d := 4) (by kernel_rfl); simp [execOp, e4, hc0, hc1, go_sem]
            · refine obR_call (q := 8) (f := 16) (args := #[(r 7), .agg #[.int .i64 m1, .int .i64 m2]]) (want_is hEA (g := 21) (x := true) (b := true) rfl rfl rfl rfl) (by kernel_rfl) (fun w' => by have e46 : Fr.tmps[46]? = some ((r 7)) := hEA.dst 23 _ 46 rfl rfl; have e47 : Fr.tmps[47]? = some (.agg #[.int .i64 m1, .int .i64 m2]) := hEA.dst 24 _ 47 rfl rfl; simp [e46, e47, go_sem]) ?_
              intro w' hw
              refine ((show Calls _ _ _ _ (fun e W' => e = .returned (.bool true) ∧ Below w'.heap.size w' W') from by have := refHas_any (r 7) (lv (spo ot)) m1 m2 w' (hw.2.2.2.2 (by decide)); rwa [HIN.out] at this)).mono ?_
              rintro e w2 ⟨rfl, hb⟩
              exact ⟨_, rfl, fun r' hr hv => ⟨rfl, ⟨hw.1.trans (hb.mono hw.1.size), fun _ => by rw [hr 2 (by decide)]; exact keeps_mems _ _ _ _ _ _ (hw.2.1 (by decide)) hb hb.size, fun _ => by rw [hr 3 (by decide)]; exact keeps_spots _ _ _ _ _ _ (hw.2.2.1 (by decide)) hb hb.size, fun _ => by rw [hr 5 (by decide)]; exact keeps_mems _ _ _ _ _ _ (hw.2.2.2.1 (by decide)) hb hb.size, fun _ => by rw [hr 7 (by decide)]; exact keeps_mems _ _ _ _ _ _ (hw.2.2.2.2 (by decide)) hb hb.size⟩⟩⟩
            · exact obR_move _ rfl (want_is hEA (g := 21) (x := true) (b := true) rfl rfl rfl rfl) (by kernel_rfl) (eval_dst hEA (j := 25) rfl rfl)
            · exact obR_skip (want_is hEA (g := 26) (x := true) (b := false) rfl rfl rfl rfl) (by kernel_rfl) rfl
            · exact obR_skip (want_is hEA (g := 26) (x := true) (b := false) rfl rfl rfl rfl) (by kernel_rfl) rfl
            · exact obR_skip (want_is hEA (g := 26) (x := true) (b := false) rfl rfl rfl rfl) (by kernel_rfl) rfl
            · exact obR_skip (want_is hEA (g := 26) (x := true) (b := false) rfl rfl rfl rfl) (by kernel_rfl) rfl
            · exact obR_skip (want_is hEA (g := 26) (x := true) (b := false) rfl rfl rfl rfl) (by kernel_rfl) rfl
            · refine obR_val (want_is hEA (g := 21) (x := true) (b := true) rfl rfl rfl rfl) (by kernel_rfl) (fun ph w' hp hpm hw => ?_)
              have e49 : Fr.tmps[49]? = some (.bool true) := hEA.dst 26 _ 49 rfl rfl; have e54 : Fr.tmps[54]? = some (undef) := hEA.dst 31 _ 54 rfl rfl; simp [execOp, e49, e54, go_sem]
            · refine obR_val (want_none rfl) (by kernel_rfl) (fun ph w' hp hpm hw => ?_)
              have e44 : Fr.tmps[44]? = some (.bool true) := hEA.dst 21 _ 44 rfl rfl; have e55 : Fr.tmps[55]? = some (.bool true) := hEA.dst 32 _ 55 rfl rfl; simp [execOp, e44, e55, go_sem]
            · refine obR_val (want_none rfl) (by kernel_rfl) (fun ph w' hp hpm hw => ?_)
              have e56 : Fr.tmps[56]? = some (.bool true) := hEA.dst 33 _ 56 rfl rfl; simp [execOp, e56, go_sem]
          · intro r w' hw
            simp only [laid, Act.put, List.setIfInBounds_toArray, List.set_cons_succ, List.set_cons_zero, List.getD_cons_succ, List.getD_cons_zero, Nat.zero_add, Nat.reduceAdd]
            go_wp2
            go_ret
            exact ⟨rfl, B.trans (hw.1.mono B.size)⟩

end Go.Proofs.Ytghnnmgohkfljaa
