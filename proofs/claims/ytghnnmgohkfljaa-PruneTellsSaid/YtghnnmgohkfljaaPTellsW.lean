/- lodgelaw11.PruneTells answers true, whatever slices of spots and members, and member, come in, and leaves memory below as it was. No condition. -/
import Derived.Test.YtghnnmgohkfljaaAwake11
import Derived.Test.YtghnnmgohkfljaaSmallL
import Derived.Test.YtghnnmgohkfljaaPhaseR
import Derived.Test.YtghnnmgohkfljaaLens
namespace Go.Proofs.Ytghnnmgohkfljaa
open Go Go.RowKit
set_option linter.unusedVariables false

set_option maxRecDepth 100000 in
set_option maxHeartbeats 8000000 in
theorem pruneTells_walk (A : Option Addr) (la ca : Nat) (A2 : Option Addr) (lb cb : Nat) (c : Array Value) (w : World) (h : ∃ xs, Spots w.heap.size w xs [.slice A la ca]) (h' : ∃ K, Mems w.heap.size w K [.slice A2 lb cb]) (h'' : ∃ m, IsM w.heap.size w m c.toList) :
    Calls Try.prog 3 #[.slice A la ca, .slice A2 lb cb, .agg c] w fun e w' => e = .returned (.bool true) ∧ Below w.heap.size w w' := by
  obtain ⟨xs, hx⟩ := h
  have HX := Lib.hid hx
  obtain ⟨_, _, e, hlcHX, hcmHX, _⟩ := spots_at hx
  simp only [Value.slice.injEq] at e
  obtain ⟨rfl, hlHX, rfl⟩ := e
  have hcHX : ca ≤ 9223372036854775807 := Nat.le_trans hcmHX (by decide)
  subst hlHX
  clear hx hcmHX
  obtain ⟨K, hk⟩ := h'
  have HK := Lib.hid hk
  obtain ⟨_, _, e, hlcHK, hcmHK, _⟩ := mems_at hk
  simp only [Value.slice.injEq] at e
  obtain ⟨rfl, hlHK, rfl⟩ := e
  have hcHK : cb ≤ 9223372036854775807 := Nat.le_trans hcmHK (by decide)
  subst hlHK
  clear hk hcmHK
  obtain ⟨⟨m1, m2⟩, hm⟩ := h''
  obtain rfl : c = #[.int .i64 m1, .int .i64 m2] := by
    have hm : c.toList = [.int .i64 m1, .int .i64 m2] := hm
    rw [← Array.toArray_toList (xs := c), hm]
  clear hm
  obtain ⟨b, hb1, -, hb2⟩ := smallL_any xs
  have HSM := Lib.hid hb2
  clear hb2
  go_enter Try.func3, Try.ntmps3
  go_wp2_with fail
  obtain ⟨W0, hW0, b0, B⟩ : ∃ W0, w.alloc (.cells #[.int .i64 m1, .int .i64 m2] 25) = W0 ∧ Box W0 w.heap.size [.int .i64 m1, .int .i64 m2] ∧ Below w.heap.size w W0 := ⟨_, rfl, Box.new w _ _, below_new _ _⟩
  rw [hW0]
  clear hW0
  replace HX := Lib.hid (keeps_spots _ _ _ _ _ _ HX.out B B.size)
  replace HK := Lib.hid (keeps_mems _ _ _ _ _ _ HK.out B B.size)
  refine (HSM.out _ W0 HX.out).mono ?_
  rintro e W1 ⟨rfl, hb⟩
  replace b0 := b0.next hb
  replace HX := Lib.hid (keeps_spots _ _ _ _ _ _ HX.out hb hb.size)
  replace HK := Lib.hid (keeps_mems _ _ _ _ _ _ HK.out hb hb.size)
  replace B := B.trans (hb.mono B.size)
  clear hb
  cases b with
  | false =>
    clear hb1
    go_wp2_with fail
    refine (awake11_any W1).mono ?_
    rintro e W9 ⟨rfl, B9⟩
    go_wp2
    go_ret
    exact ⟨rfl, B.trans (B9.mono B.size)⟩
  | true =>
    obtain ⟨ot, rfl, hok⟩ := hb1 rfl
    have hn : (spo ot).length ≤ 400000 := by have := (okT_parts hok).1; omega
    clear hb1
    by_cases hkl : K.length ≤ 100
    · have hd : decide ((100 : Int) < (K.length : Int)) = false := decide_eq_false (by omega)
      have hd2 : ¬ (100 < K.length) := by omega
      have hl1 : (spo (keepO K ot)).length ≤ 1000000 := by have := len_keep K ot; omega
      have hl2 : (spo (withoutO (m1, m2) ot)).length ≤ 1000000 := by have := len_keep ((lvO ot).filter fun x => decide (x ≠ (m1, m2))) ot; unfold withoutO; omega
      replace hkl : K.length ≤ 1000 := by omega
      go_wp2_with fail
      clear hd hd2
      refine wp_region_results (fun r i => ([.bool true, .bool true, .slice A (spo ot).length ca, .slice A2 K.length cb, (r 1), .slice A (spo ot).length ca, .slice A2 K.length cb, (r 2), .bool true, .bool true, .bool true, .slice A (spo ot).length ca, .agg #[.int .i64 m1, .int .i64 m2], (r 4), .slice A (spo ot).length ca, .agg #[.int .i64 m1, .int .i64 m2], (r 5), .bool true, .bool true, .bool true] : List Value).getD i undef) [0, 4, 7, 8, 13, 16, 17] [0, 1, 1, 1, 1, 1, 1, 2, 3, 4, 4, 4, 4, 4, 4, 4, 5, 6, 7, 7] (fun r q w' => (Below W1.heap.size W1 w') ∧ (1 < q → Spots w'.heap.size w' (spo (keepO K ot)) [(r 1)]) ∧ (2 < q → Spots w'.heap.size w' (spo (keepO K ot)) [(r 2)]) ∧ (4 < q → Spots w'.heap.size w' (spo (withoutO (m1, m2) ot)) [(r 4)]) ∧ (5 < q → Spots w'.heap.size w' (spo (withoutO (m1, m2) ot)) [(r 5)])) (by kernel_rfl) (by kernel_rfl) (fun r => ⟨⟨rfl, rfl, rfl, Nat.le_refl _, fun _ _ => rfl⟩, fun h => absurd h (Nat.not_lt_zero _), fun h => absurd h (Nat.not_lt_zero _), fun h => absurd h (Nat.not_lt_zero _), fun h => absurd h (Nat.not_lt_zero _)⟩) ?_ ?_
      · refine ObsR_of_ends (by kernel_rfl) ?_
        intro r Fr hEA
        refine ⟨?_, ?_, ?_, ?_, ?_, ?_, ?_, ?_, ?_, ?_, ?_, ?_, ?_, ?_, ?_, ?_, ?_, ?_, ?_, ?_, trivial⟩
        · refine obR_call (q := 0) (f := 9) (args := #[]) (want_none rfl) (by kernel_rfl) (fun w' => by simp [go_sem]) ?_
          intro w' hw
          refine (awake11_any w').mono ?_
          rintro e w2 ⟨rfl, hb⟩
          exact ⟨_, rfl, fun r' hr hv => ⟨rfl, ⟨hw.1.trans (hb.mono hw.1.size), fun h => absurd h (by decide), fun h => absurd h (by decide), fun h => absurd h (by decide), fun h => absurd h (by decide)⟩⟩⟩
        · exact obR_move _ rfl (want_none rfl) (by kernel_rfl) (eval_dst hEA (j := 0) rfl rfl)
        · exact obR_move _ rfl (want_is hEA (g := 1) (x := true) (b := true) rfl rfl rfl rfl) (by kernel_rfl) (eval_out hEA (d := 0) (by kernel_rfl))
        · exact obR_move _ rfl (want_is hEA (g := 1) (x := true) (b := true) rfl rfl rfl rfl) (by kernel_rfl) (eval_out hEA (d := 1) (by kernel_rfl))
        · refine obR_call (q := 1) (f := 11) (args := #[.slice A (spo ot).length ca, .slice A2 K.length cb]) (want_is hEA (g := 1) (x := true) (b := true) rfl rfl rfl rfl) (by kernel_rfl) (fun w' => by have e18 : Fr.tmps[18]? = some (.slice A (spo ot).length ca) := hEA.dst 2 _ 18 rfl rfl; have e19 : Fr.tmps[19]? = some (.slice A2 K.length cb) := hEA.dst 3 _ 19 rfl rfl; simp [e18, e19, go_sem]) ?_
          intro w' hw
          refine (pOnly_any _ _ ot K w' (keeps_spots _ _ _ _ _ _ HX.out hw.1 hw.1.size) (keeps_mems _ _ _ _ _ _ HK.out hw.1 hw.1.size) hok hkl).mono ?_
          rintro e w2 ⟨v', rfl, hs, hb⟩
          exact ⟨_, rfl, fun r' hr hv => ⟨hv, ⟨hw.1.trans (hb.mono hw.1.size), fun _ => by rw [hv]; exact hs, fun h => absurd h (by decide), fun h => absurd h (by decide), fun h => absurd h (by decide)⟩⟩⟩
        · exact obR_move _ rfl (want_is hEA (g := 1) (x := true) (b := true) rfl rfl rfl rfl) (by kernel_rfl) (eval_out hEA (d := 0) (by kernel_rfl))
        · exact obR_move _ rfl (want_is hEA (g := 1) (x := true) (b := true) rfl rfl rfl rfl) (by kernel_rfl) (eval_out hEA (d := 1) (by kernel_rfl))
        · refine obR_call (q := 2) (f := 12) (args := #[.slice A (spo ot).length ca, .slice A2 K.length cb]) (want_is hEA (g := 1) (x := true) (b := true) rfl rfl rfl rfl) (by kernel_rfl) (fun w' => by have e21 : Fr.tmps[21]? = some (.slice A (spo ot).length ca) := hEA.dst 5 _ 21 rfl rfl; have e22 : Fr.tmps[22]? = some (.slice A2 K.length cb) := hEA.dst 6 _ 22 rfl rfl; simp [e21, e22, go_sem]) ?_
          intro w' hw
          refine (refOnly_any _ _ ot K w' (keeps_spots _ _ _ _ _ _ HX.out hw.1 hw.1.size) (keeps_mems _ _ _ _ _ _ HK.out hw.1 hw.1.size) hn).mono ?_
          rintro e w2 ⟨v', rfl, hs, hb⟩
          exact ⟨_, rfl, fun r' hr hv => ⟨hv, ⟨hw.1.trans (hb.mono hw.1.size), fun _ => by rw [hr 1 (by decide)]; exact keeps_spots _ _ _ _ _ _ (hw.2.1 (by decide)) hb hb.size, fun _ => by rw [hv]; exact hs, fun h => absurd h (by decide), fun h => absurd h (by decide)⟩⟩⟩
        · refine obR_call (q := 3) (f := 10) (args := #[(r 1), (r 2)]) (want_is hEA (g := 1) (x := true) (b := true) rfl rfl rfl rfl) (by kernel_rfl) (fun w' => by have e20 : Fr.tmps[20]? = some ((r 1)) := hEA.dst 4 _ 20 rfl rfl; have e23 : Fr.tmps[23]? = some ((r 2)) := hEA.dst 7 _ 23 rfl rfl; simp [e20, e23, go_sem]) ?_
          intro w' hw
          refine ((show Calls _ _ _ _ (fun e W' => e = .returned (.bool true) ∧ Below w'.heap.size w' W') from by have := sameS_any (r 1) (r 2) (spo (keepO K ot)) (spo (keepO K ot)) w' (hw.2.1 (by decide)) (hw.2.2.1 (by decide)) hl1; rwa [show decide ((spo (keepO K ot)) = (spo (keepO K ot))) = true from decide_eq_true rfl] at this)).mono ?_
          rintro e w2 ⟨rfl, hb⟩
          exact ⟨_, rfl, fun r' hr hv => ⟨rfl, ⟨hw.1.trans (hb.mono hw.1.size), fun _ => by rw [hr 1 (by decide)]; exact keeps_spots _ _ _ _ _ _ (hw.2.1 (by decide)) hb hb.size, fun _ => by rw [hr 2 (by decide)]; exact keeps_spots _ _ _ _ _ _ (hw.2.2.1 (by decide)) hb hb.size, fun h => absurd h (by decide), fun h => absurd h (by decide)⟩⟩⟩
        · refine obR_val (want_none rfl) (by kernel_rfl) (fun ph w' hp hpm hw => ?_)
          have e17 : Fr.tmps[17]? = some (.bool true) := hEA.dst 1 _ 17 rfl rfl; have e24 : Fr.tmps[24]? = some (.bool true) := hEA.dst 8 _ 24 rfl rfl; simp [execOp, e17, e24, go_sem]
        · exact obR_move _ rfl (want_none rfl) (by kernel_rfl) (eval_dst hEA (j := 9) rfl rfl)
        · exact obR_move _ rfl (want_is hEA (g := 10) (x := true) (b := true) rfl rfl rfl rfl) (by kernel_rfl) (eval_out hEA (d := 0) (by kernel_rfl))
        · refine obR_val (want_is hEA (g := 10) (x := true) (b := true) rfl rfl rfl rfl) (by kernel_rfl) (fun ph w' hp hpm hw => ?_)
          have hc0 := (hw.1.cell (p := ⟨w.heap.size, 0, none⟩) b0.lt).trans (b0.c 0 _ rfl)
          have hc1 := (hw.1.cell (p := ⟨w.heap.size, 1, none⟩) b0.lt).trans (b0.c 1 _ rfl)
          have e5 : Fr.tmps[5]? = some (.pointer (some ⟨w.heap.size, 0, none⟩)) := at_out hEA (d := 5) (by kernel_rfl); simp [execOp, e5, hc0, hc1, go_sem]
        · refine obR_call (q := 4) (f := 13) (args := #[.slice A (spo ot).length ca, .agg #[.int .i64 m1, .int .i64 m2]]) (want_is hEA (g := 10) (x := true) (b := true) rfl rfl rfl rfl) (by kernel_rfl) (fun w' => by have e27 : Fr.tmps[27]? = some (.slice A (spo ot).length ca) := hEA.dst 11 _ 27 rfl rfl; have e28 : Fr.tmps[28]? = some (.agg #[.int .i64 m1, .int .i64 m2]) := hEA.dst 12 _ 28 rfl rfl; simp [e27, e28, go_sem]) ?_
          intro w' hw
          refine (pWithout_any _ ot m1 m2 w' (keeps_spots _ _ _ _ _ _ HX.out hw.1 hw.1.size) hok).mono ?_
          rintro e w2 ⟨v', rfl, hs, hb⟩
          exact ⟨_, rfl, fun r' hr hv => ⟨hv, ⟨hw.1.trans (hb.mono hw.1.size), fun _ => by rw [hr 1 (by decide)]; exact keeps_spots _ _ _ _ _ _ (hw.2.1 (by decide)) hb hb.size, fun _ => by rw [hr 2 (by decide)]; exact keeps_spots _ _ _ _ _ _ (hw.2.2.1 (by decide)) hb hb.size, fun _ => by rw [hv]; exact hs, fun h => absurd h (by decide)⟩⟩⟩
        · exact obR_move _ rfl (want_is hEA (g := 10) (x := true) (b := true) rfl rfl rfl rfl) (by kernel_rfl) (eval_out hEA (d := 0) (by kernel_rfl))
        · refine obR_val (want_is hEA (g := 10) (x := true) (b := true) rfl rfl rfl rfl) (by kernel_rfl) (fun ph w' hp hpm hw => ?_)
          have hc0 := (hw.1.cell (p := ⟨w.heap.size, 0, none⟩) b0.lt).trans (b0.c 0 _ rfl)
          have hc1 := (hw.1.cell (p := ⟨w.heap.size, 1, none⟩) b0.lt).trans (b0.c 1 _ rfl)
          have e5 : Fr.tmps[5]? = some (.pointer (some ⟨w.heap.size, 0, none⟩)) := at_out hEA (d := 5) (by kernel_rfl); simp [execOp, e5, hc0, hc1, go_sem]
        · refine obR_call (q := 5) (f := 14) (args := #[.slice A (spo ot).length ca, .agg #[.int .i64 m1, .int .i64 m2]]) (want_is hEA (g := 10) (x := true) (b := true) rfl rfl rfl rfl) (by kernel_rfl) (fun w' => by have e30 : Fr.tmps[30]? = some (.slice A (spo ot).length ca) := hEA.dst 14 _ 30 rfl rfl; have e31 : Fr.tmps[31]? = some (.agg #[.int .i64 m1, .int .i64 m2]) := hEA.dst 15 _ 31 rfl rfl; simp [e30, e31, go_sem]) ?_
          intro w' hw
          refine (refWithout_any _ ot m1 m2 w' (keeps_spots _ _ _ _ _ _ HX.out hw.1 hw.1.size) hn).mono ?_
          rintro e w2 ⟨v', rfl, hs, hb⟩
          exact ⟨_, rfl, fun r' hr hv => ⟨hv, ⟨hw.1.trans (hb.mono hw.1.size), fun _ => by rw [hr 1 (by decide)]; exact keeps_spots _ _ _ _ _ _ (hw.2.1 (by decide)) hb hb.size, fun _ => by rw [hr 2 (by decide)]; exact keeps_spots _ _ _ _ _ _ (hw.2.2.1 (by decide)) hb hb.size, fun _ => by rw [hr 4 (by decide)]; exact keeps_spots _ _ _ _ _ _ (hw.2.2.2.1 (by decide)) hb hb.size, fun _ => by rw [hv]; exact hs⟩⟩⟩
        · refine obR_call (q := 6) (f := 10) (args := #[(r 4), (r 5)]) (want_is hEA (g := 10) (x := true) (b := true) rfl rfl rfl rfl) (by kernel_rfl) (fun w' => by have e29 : Fr.tmps[29]? = some ((r 4)) := hEA.dst 13 _ 29 rfl rfl; have e32 : Fr.tmps[32]? = some ((r 5)) := hEA.dst 16 _ 32 rfl rfl; simp [e29, e32, go_sem]) ?_
          intro w' hw
          refine ((show Calls _ _ _ _ (fun e W' => e = .returned (.bool true) ∧ Below w'.heap.size w' W') from by have := sameS_any (r 4) (r 5) (spo (withoutO (m1, m2) ot)) (spo (withoutO (m1, m2) ot)) w' (hw.2.2.2.1 (by decide)) (hw.2.2.2.2 (by decide)) hl2; rwa [show decide ((spo (withoutO (m1, m2) ot)) = (spo (withoutO (m1, m2) ot))) = true from decide_eq_true rfl] at this)).mono ?_
          rintro e w2 ⟨rfl, hb⟩
          exact ⟨_, rfl, fun r' hr hv => ⟨rfl, ⟨hw.1.trans (hb.mono hw.1.size), fun _ => by rw [hr 1 (by decide)]; exact keeps_spots _ _ _ _ _ _ (hw.2.1 (by decide)) hb hb.size, fun _ => by rw [hr 2 (by decide)]; exact keeps_spots _ _ _ _ _ _ (hw.2.2.1 (by decide)) hb hb.size, fun _ => by rw [hr 4 (by decide)]; exact keeps_spots _ _ _ _ _ _ (hw.2.2.2.1 (by decide)) hb hb.size, fun _ => by rw [hr 5 (by decide)]; exact keeps_spots _ _ _ _ _ _ (hw.2.2.2.2 (by decide)) hb hb.size⟩⟩⟩
        · refine obR_val (want_none rfl) (by kernel_rfl) (fun ph w' hp hpm hw => ?_)
          have e26 : Fr.tmps[26]? = some (.bool true) := hEA.dst 10 _ 26 rfl rfl; have e33 : Fr.tmps[33]? = some (.bool true) := hEA.dst 17 _ 33 rfl rfl; simp [execOp, e26, e33, go_sem]
        · refine obR_val (want_none rfl) (by kernel_rfl) (fun ph w' hp hpm hw => ?_)
          have e34 : Fr.tmps[34]? = some (.bool true) := hEA.dst 18 _ 34 rfl rfl; simp [execOp, e34, go_sem]
      · intro r w' hw
        simp only [laid, Act.put, List.setIfInBounds_toArray, List.set_cons_succ, List.set_cons_zero, List.getD_cons_succ, List.getD_cons_zero, Nat.zero_add, Nat.reduceAdd]
        go_wp2
        go_ret
        exact ⟨rfl, B.trans (hw.1.mono B.size)⟩
    · have hd : decide ((100 : Int) < (K.length : Int)) = true := decide_eq_true (by omega)
      have hd2 : 100 < K.length := by omega
      go_wp2_with fail
      refine (awake11_any W1).mono ?_
      rintro e W9 ⟨rfl, B9⟩
      go_wp2
      go_ret
      exact ⟨rfl, B.trans (B9.mono B.size)⟩

end Go.Proofs.Ytghnnmgohkfljaa
