import Derived.Test.YtlmkgkfildgkgaaAwake13
import Derived.Test.YtlmkgkfildgkgaaSpoR
import Derived.Test.YtlmkgkfildgkgaaPhaseA
import Derived.Test.YtlmkgkfildgkgaaSmallS
import Derived.Test.YtlmkgkfildgkgaaLens
/- lodgelaw13.SponsorTells answers true, whatever slice of spots, label and member come in, and leaves memory below as it was. No condition. -/
namespace Go.Proofs.Ytlmkgkfildgkgaa
open Go Go.RowKit
set_option linter.unusedVariables false

set_option maxRecDepth 100000 in
set_option maxHeartbeats 8000000 in
theorem sponsorTells_walk (A : Option Addr) (la ca : Nat) (c d : Array Value) (w : World) (h : ∃ xs, Spots w.heap.size w xs [.slice A la ca]) (h' : ∃ m, IsM w.heap.size w m c.toList) (h'' : ∃ m, IsM w.heap.size w m d.toList) :
    Calls Try.prog 3 #[.slice A la ca, .agg c, .agg d] w fun e w' => e = .returned (.bool true) ∧ Below w.heap.size w w' := by
  obtain ⟨xs, hx⟩ := h
  have HX := Lib.hid hx
  obtain ⟨_, _, e, hlc, hcm, _⟩ := spots_at hx
  simp only [Value.slice.injEq] at e
  obtain ⟨rfl, hla, rfl⟩ := e
  have hc1 : ca ≤ 9223372036854775807 := Nat.le_trans hcm (by decide)
  subst hla
  clear hx hcm
  obtain ⟨⟨L, I⟩, hm⟩ := h'
  obtain rfl : c = #[.int .i64 L, .int .i64 I] := by
    have hm : c.toList = [.int .i64 L, .int .i64 I] := hm
    rw [← Array.toArray_toList (xs := c), hm]
  clear hm
  obtain ⟨⟨m1, m2⟩, hm⟩ := h''
  obtain rfl : d = #[.int .i64 m1, .int .i64 m2] := by
    have hm : d.toList = [.int .i64 m1, .int .i64 m2] := hm
    rw [← Array.toArray_toList (xs := d), hm]
  clear hm
  obtain ⟨sb, hb1, hb2⟩ := smallS_any xs
  have HSM := Lib.hid hb2
  clear hb2
  go_enter Try.func3, Try.ntmps3
  go_wp2_with fail
  obtain ⟨W0, hW0, b0, b1, B⟩ := new2 w [.int .i64 L, .int .i64 I] [.int .i64 m1, .int .i64 m2] 24 26
  rw [hW0]
  clear hW0
  replace HX := Lib.hid (keeps_spots _ _ _ _ _ _ HX.out B B.size)
  refine (HSM.out _ W0 HX.out).mono ?_
  rintro e W1 ⟨rfl, hb⟩
  replace HX := Lib.hid (keeps_spots _ _ _ _ _ _ HX.out hb hb.size)
  replace b0 := b0.next hb
  replace b1 := b1.next hb
  replace B := B.trans (hb.mono B.size)
  clear hb
  cases sb with
  | false =>
    clear hb1
    go_wp2_with fail
    refine (awake13_any W1).mono ?_
    rintro e W9 ⟨rfl, B9⟩
    go_wp2
    go_ret
    exact ⟨rfl, B.trans (B9.mono B.size)⟩
  | true =>
    obtain ⟨ot, rfl, hok, hht⟩ := hb1 rfl
    have hn : (spo ot).length ≤ 1000000 := by have := (okT_parts hok).1; omega
    have hsl : (speaksO ot (m1, m2)).length ≤ 1000000 := by have := wayO_le ot (m1, m2) hht; have := List.length_filter_le (spk ot (m1, m2)) (wayO ot (m1, m2)); unfold speaksO; omega
    clear hb1
    obtain ⟨⟨⟨a, b⟩, k⟩, hwho⟩ : ∃ q, whoO ot L I = q := ⟨_, rfl⟩
    have HWH := Lib.hid hwho
    clear hwho
    have qb00 := b0.c 0 _ rfl
    have qb01 := b0.c 1 _ rfl
    go_wp2_with fail
    refine (show Calls _ _ _ _ (fun e W' => e = .returned (.tuple #[vM a b, .bool k]) ∧ Below W1.heap.size W1 W') from by have := sOf_any _ ot L I W1 HX.out hok hht; rwa [HWH.out] at this).mono ?_
    rintro e W2 ⟨rfl, hb⟩
    replace HX := Lib.hid (keeps_spots _ _ _ _ _ _ HX.out hb hb.size)
    replace b0 := b0.next hb
    replace b1 := b1.next hb
    replace B := B.trans (hb.mono B.size)
    clear hb
    clear qb00 qb01
    have qb00 := fun o => (b0.next (below_new W2 o)).c 0 _ rfl
    have qb01 := fun o => (b0.next (below_new W2 o)).c 1 _ rfl
    go_wp2_with fail
    obtain ⟨W3, hW, b7, hb⟩ : ∃ W, W2.alloc (.cells #[.int .i64 a, .int .i64 b] 26) = W ∧ Box W W2.heap.size [.int .i64 a, .int .i64 b] ∧ Below W2.heap.size W2 W := ⟨_, rfl, Box.new W2 _ _, below_new _ _⟩
    rw [hW]
    obtain ⟨g7, hg⟩ : ∃ g, W2.heap.size = g := ⟨_, rfl⟩
    rw [hg] at b7
    try rw [hg]
    replace HX := Lib.hid (keeps_spots _ _ _ _ _ _ HX.out hb hb.size)
    replace b0 := b0.next hb
    replace b1 := b1.next hb
    replace B := B.trans (hb.mono B.size)
    clear hb
    clear hW hg
    clear qb00 qb01
    refine (show Calls _ _ _ _ (fun e W' => e = .returned (.tuple #[vM a b, .bool k]) ∧ Below W3.heap.size W3 W') from by have := refWho_any _ ot L I W3 HX.out hn; rwa [HWH.out] at this).mono ?_
    rintro e W4 ⟨rfl, hb⟩
    replace HX := Lib.hid (keeps_spots _ _ _ _ _ _ HX.out hb hb.size)
    replace b0 := b0.next hb
    replace b1 := b1.next hb
    replace b7 := b7.next hb
    replace B := B.trans (hb.mono B.size)
    clear hb
    go_wp2_with fail
    obtain ⟨W5, hW, b9, hb⟩ : ∃ W, W4.alloc (.cells #[.int .i64 a, .int .i64 b] 26) = W ∧ Box W W4.heap.size [.int .i64 a, .int .i64 b] ∧ Below W4.heap.size W4 W := ⟨_, rfl, Box.new W4 _ _, below_new _ _⟩
    rw [hW]
    obtain ⟨g9, hg⟩ : ∃ g, W4.heap.size = g := ⟨_, rfl⟩
    rw [hg] at b9
    try rw [hg]
    replace HX := Lib.hid (keeps_spots _ _ _ _ _ _ HX.out hb hb.size)
    replace b0 := b0.next hb
    replace b1 := b1.next hb
    replace b7 := b7.next hb
    replace B := B.trans (hb.mono B.size)
    clear hb
    clear hW hg
    refine wp_region_results (fun r i => ([.bool true, .bool true, .agg #[.int .i64 a, .int .i64 b], .agg #[.int .i64 a, .int .i64 b], .bool true, .bool true, .bool true, .bool k, .bool k, .bool true, .bool true, .bool true, .slice A (spo ot).length ca, .agg #[.int .i64 m1, .int .i64 m2], (r 1), .slice A (spo ot).length ca, .agg #[.int .i64 m1, .int .i64 m2], (r 2), .bool true, .bool true, .bool true] : List Value).getD i undef) [0, 14, 17, 18] [0, 1, 1, 1, 1, 1, 1, 1, 1, 1, 1, 1, 1, 1, 1, 1, 1, 2, 3, 4, 4] (fun r q w' => (Below W5.heap.size W5 w') ∧ (1 < q → Mems w'.heap.size w' (speaksO ot (m1, m2)) [(r 1)]) ∧ (2 < q → Mems w'.heap.size w' (speaksO ot (m1, m2)) [(r 2)])) (by kernel_rfl) (by kernel_rfl) (fun r => ⟨⟨rfl, rfl, rfl, Nat.le_refl _, fun _ _ => rfl⟩, fun h => absurd h (Nat.not_lt_zero _), fun h => absurd h (Nat.not_lt_zero _)⟩) ?_ ?_
    · refine ObsR_of_ends (by kernel_rfl) ?_
      intro r Fr hEA
      refine ⟨?_, ?_, ?_, ?_, ?_, ?_, ?_, ?_, ?_, ?_, ?_, ?_, ?_, ?_, ?_, ?_, ?_, ?_, ?_, ?_, ?_, trivial⟩
      · refine obR_call (q := 0) (f := 7) (args := #[]) (want_none rfl) (by kernel_rfl) (fun w' => by simp [go_sem]) ?_
        intro w' hw
        refine (awake13_any w').mono ?_
        rintro e w2 ⟨rfl, hb⟩
        exact ⟨_, rfl, fun r' hr hv => ⟨rfl, ⟨hw.1.trans (hb.mono hw.1.size), fun h => absurd h (by decide), fun h => absurd h (by decide)⟩⟩⟩
      · exact obR_move _ rfl (want_none rfl) (by kernel_rfl) (eval_dst hEA (j := 0) rfl rfl)
      · refine obR_val (want_is hEA (g := 1) (x := true) (b := true) rfl rfl rfl rfl) (by kernel_rfl) (fun ph w' hp hpm hw => ?_)
        have hc0 := (hw.1.cell (p := ⟨g7, 0, none⟩) b7.lt).trans (b7.c 0 _ rfl)
        have hc1 := (hw.1.cell (p := ⟨g7, 1, none⟩) b7.lt).trans (b7.c 1 _ rfl)
        have e7 : Fr.tmps[7]? = some (.pointer (some ⟨g7, 0, none⟩)) := at_out hEA (d := 7) (by kernel_rfl); simp [execOp, e7, hc0, hc1, go_sem]
      · refine obR_val (want_is hEA (g := 1) (x := true) (b := true) rfl rfl rfl rfl) (by kernel_rfl) (fun ph w' hp hpm hw => ?_)
        have hc0 := (hw.1.cell (p := ⟨g9, 0, none⟩) b9.lt).trans (b9.c 0 _ rfl)
        have hc1 := (hw.1.cell (p := ⟨g9, 1, none⟩) b9.lt).trans (b9.c 1 _ rfl)
        have e9 : Fr.tmps[9]? = some (.pointer (some ⟨g9, 0, none⟩)) := at_out hEA (d := 9) (by kernel_rfl); simp [execOp, e9, hc0, hc1, go_sem]
      · refine obR_val (want_is hEA (g := 1) (x := true) (b := true) rfl rfl rfl rfl) (by kernel_rfl) (fun ph w' hp hpm hw => ?_)
        have e29 : Fr.tmps[29]? = some (.agg #[.int .i64 a, .int .i64 b]) := hEA.dst 2 _ 29 rfl rfl; have e30 : Fr.tmps[30]? = some (.agg #[.int .i64 a, .int .i64 b]) := hEA.dst 3 _ 30 rfl rfl; simp [execOp, e29, e30, go_sem]
      · refine obR_val (want_none rfl) (by kernel_rfl) (fun ph w' hp hpm hw => ?_)
        have e28 : Fr.tmps[28]? = some (.bool true) := hEA.dst 1 _ 28 rfl rfl; have e31 : Fr.tmps[31]? = some (.bool true) := hEA.dst 4 _ 31 rfl rfl; simp [execOp, e28, e31, go_sem]
      · exact obR_move _ rfl (want_none rfl) (by kernel_rfl) (eval_dst hEA (j := 5) rfl rfl)
      · exact obR_move _ rfl (want_is hEA (g := 6) (x := true) (b := true) rfl rfl rfl rfl) (by kernel_rfl) (eval_out hEA (d := 8) (by kernel_rfl))
      · exact obR_move _ rfl (want_is hEA (g := 6) (x := true) (b := true) rfl rfl rfl rfl) (by kernel_rfl) (eval_out hEA (d := 10) (by kernel_rfl))
      · refine obR_val (want_is hEA (g := 6) (x := true) (b := true) rfl rfl rfl rfl) (by kernel_rfl) (fun ph w' hp hpm hw => ?_)
        have e34 : Fr.tmps[34]? = some (.bool k) := hEA.dst 7 _ 34 rfl rfl; have e35 : Fr.tmps[35]? = some (.bool k) := hEA.dst 8 _ 35 rfl rfl; simp [execOp, e34, e35, go_sem]
      · refine obR_val (want_none rfl) (by kernel_rfl) (fun ph w' hp hpm hw => ?_)
        have e33 : Fr.tmps[33]? = some (.bool true) := hEA.dst 6 _ 33 rfl rfl; have e36 : Fr.tmps[36]? = some (.bool true) := hEA.dst 9 _ 36 rfl rfl; simp [execOp, e33, e36, go_sem]
      · exact obR_move _ rfl (want_none rfl) (by kernel_rfl) (eval_dst hEA (j := 10) rfl rfl)
      · exact obR_move _ rfl (want_is hEA (g := 11) (x := true) (b := true) rfl rfl rfl rfl) (by kernel_rfl) (eval_out hEA (d := 0) (by kernel_rfl))
      · refine obR_val (want_is hEA (g := 11) (x := true) (b := true) rfl rfl rfl rfl) (by kernel_rfl) (fun ph w' hp hpm hw => ?_)
        have hc0 := (hw.1.cell (p := ⟨w.heap.size + 1, 0, none⟩) b1.lt).trans (b1.c 0 _ rfl)
        have hc1 := (hw.1.cell (p := ⟨w.heap.size + 1, 1, none⟩) b1.lt).trans (b1.c 1 _ rfl)
        have e5 : Fr.tmps[5]? = some (.pointer (some ⟨w.heap.size + 1, 0, none⟩)) := at_out hEA (d := 5) (by kernel_rfl); simp [execOp, e5, hc0, hc1, go_sem]
      · refine obR_call (q := 1) (f := 11) (args := #[.slice A (spo ot).length ca, .agg #[.int .i64 m1, .int .i64 m2]]) (want_is hEA (g := 11) (x := true) (b := true) rfl rfl rfl rfl) (by kernel_rfl) (fun w' => by have e39 : Fr.tmps[39]? = some (.slice A (spo ot).length ca) := hEA.dst 12 _ 39 rfl rfl; have e40 : Fr.tmps[40]? = some (.agg #[.int .i64 m1, .int .i64 m2]) := hEA.dst 13 _ 40 rfl rfl; simp [e39, e40, go_sem]) ?_
        intro w' hw
        refine (sSpeaks_any _ ot m1 m2 w' (keeps_spots _ _ _ _ _ _ HX.out hw.1 hw.1.size) hok hht).mono ?_
        rintro e w2 ⟨v', rfl, hs, hb⟩
        exact ⟨_, rfl, fun r' hr hv => ⟨hv, ⟨hw.1.trans (hb.mono hw.1.size), fun _ => by rw [hv]; exact hs, fun h => absurd h (by decide)⟩⟩⟩
      · exact obR_move _ rfl (want_is hEA (g := 11) (x := true) (b := true) rfl rfl rfl rfl) (by kernel_rfl) (eval_out hEA (d := 0) (by kernel_rfl))
      · refine obR_val (want_is hEA (g := 11) (x := true) (b := true) rfl rfl rfl rfl) (by kernel_rfl) (fun ph w' hp hpm hw => ?_)
        have hc0 := (hw.1.cell (p := ⟨w.heap.size + 1, 0, none⟩) b1.lt).trans (b1.c 0 _ rfl)
        have hc1 := (hw.1.cell (p := ⟨w.heap.size + 1, 1, none⟩) b1.lt).trans (b1.c 1 _ rfl)
        have e5 : Fr.tmps[5]? = some (.pointer (some ⟨w.heap.size + 1, 0, none⟩)) := at_out hEA (d := 5) (by kernel_rfl); simp [execOp, e5, hc0, hc1, go_sem]
      · refine obR_call (q := 2) (f := 12) (args := #[.slice A (spo ot).length ca, .agg #[.int .i64 m1, .int .i64 m2]]) (want_is hEA (g := 11) (x := true) (b := true) rfl rfl rfl rfl) (by kernel_rfl) (fun w' => by have e42 : Fr.tmps[42]? = some (.slice A (spo ot).length ca) := hEA.dst 15 _ 42 rfl rfl; have e43 : Fr.tmps[43]? = some (.agg #[.int .i64 m1, .int .i64 m2]) := hEA.dst 16 _ 43 rfl rfl; simp [e42, e43, go_sem]) ?_
        intro w' hw
        refine (refSpeaks_any _ ot m1 m2 w' (keeps_spots _ _ _ _ _ _ HX.out hw.1 hw.1.size) hn hht).mono ?_
        rintro e w2 ⟨v', rfl, hs, hb⟩
        exact ⟨_, rfl, fun r' hr hv => ⟨hv, ⟨hw.1.trans (hb.mono hw.1.size), fun _ => by rw [hr 1 (by decide)]; exact keeps_mems _ _ _ _ _ _ (hw.2.1 (by decide)) hb hb.size, fun _ => by rw [hv]; exact hs⟩⟩⟩
      · refine obR_call (q := 3) (f := 10) (args := #[(r 1), (r 2)]) (want_is hEA (g := 11) (x := true) (b := true) rfl rfl rfl rfl) (by kernel_rfl) (fun w' => by have e41 : Fr.tmps[41]? = some ((r 1)) := hEA.dst 14 _ 41 rfl rfl; have e44 : Fr.tmps[44]? = some ((r 2)) := hEA.dst 17 _ 44 rfl rfl; simp [e41, e44, go_sem]) ?_
        intro w' hw
        refine ((show Calls _ _ _ _ (fun e W' => e = .returned (.bool true) ∧ Below w'.heap.size w' W') from by have := sameL_any (r 1) (r 2) (speaksO ot (m1, m2)) (speaksO ot (m1, m2)) w' (hw.2.1 (by decide)) (hw.2.2 (by decide)) hsl; rwa [show decide (speaksO ot (m1, m2) = speaksO ot (m1, m2)) = true from decide_eq_true rfl] at this)).mono ?_
        rintro e w2 ⟨rfl, hb⟩
        exact ⟨_, rfl, fun r' hr hv => ⟨rfl, ⟨hw.1.trans (hb.mono hw.1.size), fun _ => by rw [hr 1 (by decide)]; exact keeps_mems _ _ _ _ _ _ (hw.2.1 (by decide)) hb hb.size, fun _ => by rw [hr 2 (by decide)]; exact keeps_mems _ _ _ _ _ _ (hw.2.2 (by decide)) hb hb.size⟩⟩⟩
      · refine obR_val (want_none rfl) (by kernel_rfl) (fun ph w' hp hpm hw => ?_)
        have e38 : Fr.tmps[38]? = some (.bool true) := hEA.dst 11 _ 38 rfl rfl; have e45 : Fr.tmps[45]? = some (.bool true) := hEA.dst 18 _ 45 rfl rfl; simp [execOp, e38, e45, go_sem]
      · refine obR_val (want_none rfl) (by kernel_rfl) (fun ph w' hp hpm hw => ?_)
        have e46 : Fr.tmps[46]? = some (.bool true) := hEA.dst 19 _ 46 rfl rfl; simp [execOp, e46, go_sem]
    · intro r w' hw
      simp only [laid, Act.put, List.setIfInBounds_toArray, List.set_cons_succ, List.set_cons_zero, List.getD_cons_succ, List.getD_cons_zero, Nat.zero_add, Nat.reduceAdd]
      go_wp2
      go_ret
      exact ⟨rfl, B.trans (hw.1.mono B.size)⟩

end Go.Proofs.Ytlmkgkfildgkgaa
