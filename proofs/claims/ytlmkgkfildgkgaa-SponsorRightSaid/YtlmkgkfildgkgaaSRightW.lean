import Derived.Test.YtlmkgkfildgkgaaAwake13
import Derived.Test.YtlmkgkfildgkgaaSpoR
import Derived.Test.YtlmkgkfildgkgaaPhaseA
import Derived.Test.YtlmkgkfildgkgaaPruN
import Derived.Test.YtlmkgkfildgkgaaSmallS
import Derived.Test.YtlmkgkfildgkgaaLens
/- lodgelaw13.SponsorRight answers true, whatever slice of spots and label come in, and leaves memory below as it was. No condition. -/
namespace Go.Proofs.Ytlmkgkfildgkgaa
open Go Go.RowKit
set_option linter.unusedVariables false

set_option maxRecDepth 100000 in
set_option maxHeartbeats 8000000 in
theorem sponsorRight_walk (A : Option Addr) (la ca : Nat) (c : Array Value) (w : World) (h : ∃ xs, Spots w.heap.size w xs [.slice A la ca]) (h' : ∃ m, IsM w.heap.size w m c.toList) :
    Calls Try.prog 5 #[.slice A la ca, .agg c] w fun e w' => e = .returned (.bool true) ∧ Below w.heap.size w w' := by
  obtain ⟨xs, hx⟩ := h
  have HX := Lib.hid hx
  obtain ⟨_, _, e, hlc, hcm, _⟩ := spots_at hx
  simp only [Value.slice.injEq] at e
  obtain ⟨rfl, hla, rfl⟩ := e
  have hc1 : ca ≤ 9223372036854775807 := Nat.le_trans hcm (by decide)
  subst hla
  clear hx hcm
  obtain ⟨⟨L, I⟩, hm⟩ := h'
  obtain rfl : c = #[.int .i64 L, .int .i64 I] := by
    have hm : c.toList = [.int .i64 L, .int .i64 I] := hm
    rw [← Array.toArray_toList (xs := c), hm]
  clear hm
  obtain ⟨sb, hb1, hb2⟩ := smallS_any xs
  have HSM := Lib.hid hb2
  clear hb2
  go_enter Try.func5, Try.ntmps5
  go_wp2_with fail
  obtain ⟨W0, hW0, b0, B⟩ : ∃ W0, w.alloc (.cells #[.int .i64 L, .int .i64 I] 24) = W0 ∧ Box W0 w.heap.size [.int .i64 L, .int .i64 I] ∧ Below w.heap.size w W0 := ⟨_, rfl, Box.new w _ _, below_new _ _⟩
  rw [hW0]
  clear hW0
  replace HX := Lib.hid (keeps_spots _ _ _ _ _ _ HX.out B B.size)
  refine (HSM.out _ W0 HX.out).mono ?_
  rintro e W1 ⟨rfl, hb⟩
  replace HX := Lib.hid (keeps_spots _ _ _ _ _ _ HX.out hb hb.size)
  replace b0 := b0.next hb
  replace B := B.trans (hb.mono B.size)
  clear hb
  cases sb with
  | false =>
    clear hb1
    go_wp2_with fail
    refine (awake13_any W1).mono ?_
    rintro e W9 ⟨rfl, B9⟩
    go_wp2
    go_ret
    exact ⟨rfl, B.trans (B9.mono B.size)⟩
  | true =>
    obtain ⟨ot, rfl, hok, hht⟩ := hb1 rfl
    have hn : (spo ot).length ≤ 1000000 := by have := (okT_parts hok).1; omega
    clear hb1
    have qb00 := b0.c 0 _ rfl
    have qb01 := b0.c 1 _ rfl
    by_cases h50 : 50 < L
    · have hd : decide (50 < L) = true := decide_eq_true h50
      go_wp2_with fail
      refine (awake13_any W1).mono ?_
      rintro e W9 ⟨rfl, B9⟩
      go_wp2
      go_ret
      exact ⟨rfl, B.trans (B9.mono B.size)⟩
    · have hd : decide (50 < L) = false := decide_eq_false h50
      go_wp2_with fail
      clear hd
      refine (refPart_any _ ot L I W1 HX.out hn).mono ?_
      rintro e W2 ⟨vp, rfl, hp, hb⟩
      replace HX := Lib.hid (keeps_spots _ _ _ _ _ _ HX.out hb hb.size)
      replace b0 := b0.next hb
      replace B := B.trans (hb.mono B.size)
      clear hb
      have HP := Lib.hid hp
      clear hp
      clear qb00 qb01
      rcases who_sub ot L I with ⟨e1, e2⟩ | ⟨k, i, x, rfl, rfl, hk60, hi, hs, e1, e2⟩
      · have HWH := Lib.hid e2
        rw [e1] at HP
        obtain ⟨Ap, cp, rfl, _, _⟩ := spots_len HP.out 0 rfl
        clear e1 e2
        have qb00 := b0.c 0 _ rfl
        have qb01 := b0.c 1 _ rfl
        go_wp2_with fail
        refine (show Calls _ _ _ _ (fun e W' => e = .returned (.tuple #[vM 0 0, .bool false]) ∧ Below W2.heap.size W2 W') from by have := sOf_any _ ot L I W2 HX.out hok hht; rwa [HWH.out] at this).mono ?_
        rintro e W3 ⟨rfl, hb⟩
        replace HX := Lib.hid (keeps_spots _ _ _ _ _ _ HX.out hb hb.size)
        replace HP := Lib.hid (keeps_spots _ _ _ _ _ _ HP.out hb hb.size)
        replace b0 := b0.next hb
        replace B := B.trans (hb.mono B.size)
        clear hb
        clear qb00 qb01
        have qb00 := fun o => (b0.next (below_new W3 o)).c 0 _ rfl
        have qb01 := fun o => (b0.next (below_new W3 o)).c 1 _ rfl
        go_wp2_with fail
        obtain ⟨W4, hW, b6, hb⟩ : ∃ W, W3.alloc (.cells #[.int .i64 0, .int .i64 0] 26) = W ∧ Box W W3.heap.size [.int .i64 0, .int .i64 0] ∧ Below W3.heap.size W3 W := ⟨_, rfl, Box.new W3 _ _, below_new _ _⟩
        rw [hW]
        obtain ⟨g6, hg⟩ : ∃ g, W3.heap.size = g := ⟨_, rfl⟩
        rw [hg] at b6
        try rw [hg]
        replace HX := Lib.hid (keeps_spots _ _ _ _ _ _ HX.out hb hb.size)
        replace HP := Lib.hid (keeps_spots _ _ _ _ _ _ HP.out hb hb.size)
        replace b0 := b0.next hb
        replace B := B.trans (hb.mono B.size)
        clear hb
        clear hW hg
        clear qb00 qb01
        refine wp_region_results (fun r i => ([.bool true, .bool true, .bool false, .slice Ap 0 cp, .int .i64 0, .bool false, .bool true, .bool true, .bool true, .bool false, .bool true, .bool true, undef, undef, undef, undef, undef, undef, .bool true, .bool true, .bool true] : List Value).getD i undef) [0] [0, 1, 1, 1, 1, 1, 1, 1, 1, 1, 1, 1, 1, 1, 1, 1, 1, 1, 1, 1, 1] (fun r q w' => (Below W4.heap.size W4 w')) (by kernel_rfl) (by kernel_rfl) (fun r => ⟨rfl, rfl, rfl, Nat.le_refl _, fun _ _ => rfl⟩) ?_ ?_
        · refine ObsR_of_ends (by kernel_rfl) ?_
          intro r Fr hEA
          refine ⟨?_, ?_, ?_, ?_, ?_, ?_, ?_, ?_, ?_, ?_, ?_, ?_, ?_, ?_, ?_, ?_, ?_, ?_, ?_, ?_, ?_, trivial⟩
          · refine obR_call (q := 0) (f := 7) (args := #[]) (want_none rfl) (by kernel_rfl) (fun w' => by simp [go_sem]) ?_
            intro w' hw
            refine (awake13_any w').mono ?_
            rintro e w2 ⟨rfl, hb⟩
            exact ⟨_, rfl, fun r' hr hv => ⟨rfl, hw.trans (hb.mono hw.size)⟩⟩
          · exact obR_move _ rfl (want_none rfl) (by kernel_rfl) (eval_dst hEA (j := 0) rfl rfl)
          · exact obR_move _ rfl (want_is hEA (g := 1) (x := true) (b := true) rfl rfl rfl rfl) (by kernel_rfl) (eval_out hEA (d := 7) (by kernel_rfl))
          · exact obR_move _ rfl (want_is hEA (g := 1) (x := true) (b := true) rfl rfl rfl rfl) (by kernel_rfl) (eval_out hEA (d := 5) (by kernel_rfl))
          · refine obR_val (want_is hEA (g := 1) (x := true) (b := true) rfl rfl rfl rfl) (by kernel_rfl) (fun ph w' hp hpm hw => ?_)
            have e36 : Fr.tmps[36]? = some (.slice Ap 0 cp) := hEA.dst 3 _ 36 rfl rfl; simp [e36, go_sem]
          · refine obR_val (want_is hEA (g := 1) (x := true) (b := true) rfl rfl rfl rfl) (by kernel_rfl) (fun ph w' hp hpm hw => ?_)
            have e37 : Fr.tmps[37]? = some (.int .i64 0) := hEA.dst 4 _ 37 rfl rfl; simp [execOp, e37, go_sem]
          · refine obR_val (want_is hEA (g := 1) (x := true) (b := true) rfl rfl rfl rfl) (by kernel_rfl) (fun ph w' hp hpm hw => ?_)
            have e35 : Fr.tmps[35]? = some (.bool false) := hEA.dst 2 _ 35 rfl rfl; have e38 : Fr.tmps[38]? = some (.bool false) := hEA.dst 5 _ 38 rfl rfl; simp [execOp, e35, e38, go_sem]
          · refine obR_val (want_none rfl) (by kernel_rfl) (fun ph w' hp hpm hw => ?_)
            have e34 : Fr.tmps[34]? = some (.bool true) := hEA.dst 1 _ 34 rfl rfl; have e39 : Fr.tmps[39]? = some (.bool true) := hEA.dst 6 _ 39 rfl rfl; simp [execOp, e34, e39, go_sem]
          · exact obR_move _ rfl (want_none rfl) (by kernel_rfl) (eval_dst hEA (j := 7) rfl rfl)
          · exact obR_move _ rfl (want_is hEA (g := 8) (x := true) (b := true) rfl rfl rfl rfl) (by kernel_rfl) (eval_out hEA (d := 7) (by kernel_rfl))
          · refine obR_val (want_is hEA (g := 8) (x := true) (b := true) rfl rfl rfl rfl) (by kernel_rfl) (fun ph w' hp hpm hw => ?_)
            have e42 : Fr.tmps[42]? = some (.bool false) := hEA.dst 9 _ 42 rfl rfl; simp [execOp, e42, go_sem]
          · exact obR_move _ rfl (want_is hEA (g := 8) (x := true) (b := true) rfl rfl rfl rfl) (by kernel_rfl) (eval_dst hEA (j := 10) rfl rfl)
          · exact obR_skip (want_is hEA (g := 11) (x := true) (b := false) rfl rfl rfl rfl) (by kernel_rfl) rfl
          · exact obR_skip (want_is hEA (g := 11) (x := true) (b := false) rfl rfl rfl rfl) (by kernel_rfl) rfl
          · exact obR_skip (want_is hEA (g := 11) (x := true) (b := false) rfl rfl rfl rfl) (by kernel_rfl) rfl
          · exact obR_skip (want_is hEA (g := 11) (x := true) (b := false) rfl rfl rfl rfl) (by kernel_rfl) rfl
          · exact obR_skip (want_is hEA (g := 11) (x := true) (b := false) rfl rfl rfl rfl) (by kernel_rfl) rfl
          · exact obR_skip (want_is hEA (g := 11) (x := true) (b := false) rfl rfl rfl rfl) (by kernel_rfl) rfl
          · refine obR_val (want_is hEA (g := 8) (x := true) (b := true) rfl rfl rfl rfl) (by kernel_rfl) (fun ph w' hp hpm hw => ?_)
            have e44 : Fr.tmps[44]? = some (.bool true) := hEA.dst 11 _ 44 rfl rfl; have e50 : Fr.tmps[50]? = some (undef) := hEA.dst 17 _ 50 rfl rfl; simp [execOp, e44, e50, go_sem]
          · refine obR_val (want_none rfl) (by kernel_rfl) (fun ph w' hp hpm hw => ?_)
            have e41 : Fr.tmps[41]? = some (.bool true) := hEA.dst 8 _ 41 rfl rfl; have e51 : Fr.tmps[51]? = some (.bool true) := hEA.dst 18 _ 51 rfl rfl; simp [execOp, e41, e51, go_sem]
          · refine obR_val (want_none rfl) (by kernel_rfl) (fun ph w' hp hpm hw => ?_)
            have e52 : Fr.tmps[52]? = some (.bool true) := hEA.dst 19 _ 52 rfl rfl; simp [execOp, e52, go_sem]
        · intro r w' hw
          simp only [laid, Act.put, List.setIfInBounds_toArray, List.set_cons_succ, List.set_cons_zero, List.getD_cons_succ, List.getD_cons_zero, Nat.zero_add, Nat.reduceAdd]
          go_wp2
          go_ret
          exact ⟨rfl, B.trans (hw.mono B.size)⟩
      · obtain ⟨o, u⟩ := x
        cases u with
        | leaf a b =>
          have HWH : Hid (whoO ot (k : Int) (i : Int) = ((a, b), true)) := Lib.hid e2
          rw [e1] at HP
          replace HP : Hid (Spots _ _ [(true, a, b)] [vp]) := HP
          obtain ⟨Ap, cp, rfl, _, _⟩ := spots_len HP.out 1 rfl
          clear e1 e2 hs
          have qb00 := b0.c 0 _ rfl
          have qb01 := b0.c 1 _ rfl
          go_wp2_with fail
          refine (show Calls _ _ _ _ (fun e W' => e = .returned (.tuple #[vM a b, .bool true]) ∧ Below W2.heap.size W2 W') from by have := sOf_any _ ot (k : Int) (i : Int) W2 HX.out hok hht; rwa [HWH.out] at this).mono ?_
          rintro e W3 ⟨rfl, hb⟩
          replace HX := Lib.hid (keeps_spots _ _ _ _ _ _ HX.out hb hb.size)
          replace HP := Lib.hid (keeps_spots _ _ _ _ _ _ HP.out hb hb.size)
          replace b0 := b0.next hb
          replace B := B.trans (hb.mono B.size)
          clear hb
          clear qb00 qb01
          have qb00 := fun o => (b0.next (below_new W3 o)).c 0 _ rfl
          have qb01 := fun o => (b0.next (below_new W3 o)).c 1 _ rfl
          go_wp2_with fail
          obtain ⟨W4, hW, b6, hb⟩ : ∃ W, W3.alloc (.cells #[.int .i64 a, .int .i64 b] 26) = W ∧ Box W W3.heap.size [.int .i64 a, .int .i64 b] ∧ Below W3.heap.size W3 W := ⟨_, rfl, Box.new W3 _ _, below_new _ _⟩
          rw [hW]
          obtain ⟨g6, hg⟩ : ∃ g, W3.heap.size = g := ⟨_, rfl⟩
          rw [hg] at b6
          try rw [hg]
          replace HX := Lib.hid (keeps_spots _ _ _ _ _ _ HX.out hb hb.size)
          replace HP := Lib.hid (keeps_spots _ _ _ _ _ _ HP.out hb hb.size)
          replace b0 := b0.next hb
          replace B := B.trans (hb.mono B.size)
          clear hb
          clear hW hg
          clear qb00 qb01
          obtain ⟨_, _, e, _, _, hc⟩ := spots_at HP.out
          simp only [Value.slice.injEq] at e
          obtain ⟨rfl, _, rfl⟩ := e
          obtain ⟨gp, op, rfl, hgp, -, k1, k2⟩ := hc 0 (by simp)
          simp only [Nat.zero_mul, Nat.add_zero, List.getElem_cons_zero] at k1 k2
          clear hc
          refine wp_region_results (fun r i => ([.bool true, .bool true, .bool true, .slice (some ⟨gp, op, none⟩) 1 cp, .int .i64 1, .bool true, .bool true, .bool true, .bool true, .bool true, .bool false, .bool false, .agg #[.int .i64 a, .int .i64 b], .slice (some ⟨gp, op, none⟩) 1 cp, .pointer (some ⟨gp, op, none⟩), .pointer (some ⟨gp, op + 1, none⟩), .agg #[.int .i64 a, .int .i64 b], .bool true, .bool true, .bool true, .bool true] : List Value).getD i undef) [0] [0, 1, 1, 1, 1, 1, 1, 1, 1, 1, 1, 1, 1, 1, 1, 1, 1, 1, 1, 1, 1] (fun r q w' => (Below W4.heap.size W4 w')) (by kernel_rfl) (by kernel_rfl) (fun r => ⟨rfl, rfl, rfl, Nat.le_refl _, fun _ _ => rfl⟩) ?_ ?_
          · refine ObsR_of_ends (by kernel_rfl) ?_
            intro r Fr hEA
            refine ⟨?_, ?_, ?_, ?_, ?_, ?_, ?_, ?_, ?_, ?_, ?_, ?_, ?_, ?_, ?_, ?_, ?_, ?_, ?_, ?_, ?_, trivial⟩
            · refine obR_call (q := 0) (f := 7) (args := #[]) (want_none rfl) (by kernel_rfl) (fun w' => by simp [go_sem]) ?_
              intro w' hw
              refine (awake13_any w').mono ?_
              rintro e w2 ⟨rfl, hb⟩
              exact ⟨_, rfl, fun r' hr hv => ⟨rfl, hw.trans (hb.mono hw.size)⟩⟩
            · exact obR_move _ rfl (want_none rfl) (by kernel_rfl) (eval_dst hEA (j := 0) rfl rfl)
            · exact obR_move _ rfl (want_is hEA (g := 1) (x := true) (b := true) rfl rfl rfl rfl) (by kernel_rfl) (eval_out hEA (d := 7) (by kernel_rfl))
            · exact obR_move _ rfl (want_is hEA (g := 1) (x := true) (b := true) rfl rfl rfl rfl) (by kernel_rfl) (eval_out hEA (d := 5) (by kernel_rfl))
            · refine obR_val (want_is hEA (g := 1) (x := true) (b := true) rfl rfl rfl rfl) (by kernel_rfl) (fun ph w' hp hpm hw => ?_)
              have e36 : Fr.tmps[36]? = some (.slice (some ⟨gp, op, none⟩) 1 cp) := hEA.dst 3 _ 36 rfl rfl; simp [e36, go_sem]
            · refine obR_val (want_is hEA (g := 1) (x := true) (b := true) rfl rfl rfl rfl) (by kernel_rfl) (fun ph w' hp hpm hw => ?_)
              have e37 : Fr.tmps[37]? = some (.int .i64 1) := hEA.dst 4 _ 37 rfl rfl; simp [execOp, e37, go_sem]
            · refine obR_val (want_is hEA (g := 1) (x := true) (b := true) rfl rfl rfl rfl) (by kernel_rfl) (fun ph w' hp hpm hw => ?_)
              have e35 : Fr.tmps[35]? = some (.bool true) := hEA.dst 2 _ 35 rfl rfl; have e38 : Fr.tmps[38]? = some (.bool true) := hEA.dst 5 _ 38 rfl rfl; simp [execOp, e35, e38, go_sem]
            · refine obR_val (want_none rfl) (by kernel_rfl) (fun ph w' hp hpm hw => ?_)
              have e34 : Fr.tmps[34]? = some (.bool true) := hEA.dst 1 _ 34 rfl rfl; have e39 : Fr.tmps[39]? = some (.bool true) := hEA.dst 6 _ 39 rfl rfl; simp [execOp, e34, e39, go_sem]
            · exact obR_move _ rfl (want_none rfl) (by kernel_rfl) (eval_dst hEA (j := 7) rfl rfl)
            · exact obR_move _ rfl (want_is hEA (g := 8) (x := true) (b := true) rfl rfl rfl rfl) (by kernel_rfl) (eval_out hEA (d := 7) (by kernel_rfl))
            · refine obR_val (want_is hEA (g := 8) (x := true) (b := true) rfl rfl rfl rfl) (by kernel_rfl) (fun ph w' hp hpm hw => ?_)
              have e42 : Fr.tmps[42]? = some (.bool true) := hEA.dst 9 _ 42 rfl rfl; simp [execOp, e42, go_sem]
            · exact obR_move _ rfl (want_is hEA (g := 8) (x := true) (b := true) rfl rfl rfl rfl) (by kernel_rfl) (eval_dst hEA (j := 10) rfl rfl)
            · refine obR_val (want_is hEA (g := 11) (x := false) (b := false) rfl rfl rfl rfl) (by kernel_rfl) (fun ph w' hp hpm hw => ?_)
              have hc0 := (hw.cell (p := ⟨g6, 0, none⟩) b6.lt).trans (b6.c 0 _ rfl)
              have hc1 := (hw.cell (p := ⟨g6, 1, none⟩) b6.lt).trans (b6.c 1 _ rfl)
              have e6 : Fr.tmps[6]? = some (.pointer (some ⟨g6, 0, none⟩)) := at_out hEA (d := 6) (by kernel_rfl); simp [execOp, e6, hc0, hc1, go_sem]
            · exact obR_move _ rfl (want_is hEA (g := 11) (x := false) (b := false) rfl rfl rfl rfl) (by kernel_rfl) (eval_out hEA (d := 5) (by kernel_rfl))
            · refine obR_val (want_is hEA (g := 11) (x := false) (b := false) rfl rfl rfl rfl) (by kernel_rfl) (fun ph w' hp hpm hw => ?_)
              have e46 : Fr.tmps[46]? = some (.slice (some ⟨gp, op, none⟩) 1 cp) := hEA.dst 13 _ 46 rfl rfl; simp [execOp, e46, go_sem]
            · refine obR_val (want_is hEA (g := 11) (x := false) (b := false) rfl rfl rfl rfl) (by kernel_rfl) (fun ph w' hp hpm hw => ?_)
              have e47 : Fr.tmps[47]? = some (.pointer (some ⟨gp, op, none⟩)) := hEA.dst 14 _ 47 rfl rfl; simp [execOp, e47, go_sem]
            · refine obR_val (want_is hEA (g := 11) (x := false) (b := false) rfl rfl rfl rfl) (by kernel_rfl) (fun ph w' hp hpm hw => ?_)
              have hc0 := (hw.cell (p := ⟨gp, op + 1, none⟩) hgp).trans k1
              have hc1 := (hw.cell (p := ⟨gp, op + 2, none⟩) hgp).trans k2
              have e48 : Fr.tmps[48]? = some (.pointer (some ⟨gp, op + 1, none⟩)) := hEA.dst 15 _ 48 rfl rfl; simp [execOp, e48, hc0, hc1, go_sem]
            · refine obR_val (want_is hEA (g := 11) (x := false) (b := false) rfl rfl rfl rfl) (by kernel_rfl) (fun ph w' hp hpm hw => ?_)
              have e45 : Fr.tmps[45]? = some (.agg #[.int .i64 a, .int .i64 b]) := hEA.dst 12 _ 45 rfl rfl; have e49 : Fr.tmps[49]? = some (.agg #[.int .i64 a, .int .i64 b]) := hEA.dst 16 _ 49 rfl rfl; simp [execOp, e45, e49, go_sem]
            · refine obR_val (want_is hEA (g := 8) (x := true) (b := true) rfl rfl rfl rfl) (by kernel_rfl) (fun ph w' hp hpm hw => ?_)
              have e44 : Fr.tmps[44]? = some (.bool false) := hEA.dst 11 _ 44 rfl rfl; have e50 : Fr.tmps[50]? = some (.bool true) := hEA.dst 17 _ 50 rfl rfl; simp [execOp, e44, e50, go_sem]
            · refine obR_val (want_none rfl) (by kernel_rfl) (fun ph w' hp hpm hw => ?_)
              have e41 : Fr.tmps[41]? = some (.bool true) := hEA.dst 8 _ 41 rfl rfl; have e51 : Fr.tmps[51]? = some (.bool true) := hEA.dst 18 _ 51 rfl rfl; simp [execOp, e41, e51, go_sem]
            · refine obR_val (want_none rfl) (by kernel_rfl) (fun ph w' hp hpm hw => ?_)
              have e52 : Fr.tmps[52]? = some (.bool true) := hEA.dst 19 _ 52 rfl rfl; simp [execOp, e52, go_sem]
          · intro r w' hw
            simp only [laid, Act.put, List.setIfInBounds_toArray, List.set_cons_succ, List.set_cons_zero, List.getD_cons_succ, List.getD_cons_zero, Nat.zero_add, Nat.reduceAdd]
            go_wp2
            go_ret
            exact ⟨rfl, B.trans (hw.mono B.size)⟩
        | inner y z l r =>
          obtain ⟨⟨a, b⟩, hr⟩ : ∃ q, lastM r = q := ⟨_, rfl⟩
          obtain ⟨⟨x8, y8⟩, hl⟩ : ∃ q, lastM l = q := ⟨_, rfl⟩
          have HWH : Hid (whoO ot (k : Int) (i : Int) = ((a, b), true)) := Lib.hid (by rw [e2, ← hr]; rfl)
          have hne : (a, b) ≠ (x8, y8) := by
            rw [← hr, ← hl]
            cases ot with
            | none => cases hs
            | some t => exact last_two ((once_iff _).1 (okT_parts hok).2.2).2 hs
          have HK := Lib.hid (who_kids (by omega) hi hs)
          rw [hl, hr] at HK
          have hi50 : i < 1125899906842624 := Nat.lt_of_lt_of_le hi (Nat.le_trans (Nat.pow_le_pow_right (by omega) (show k ≤ 50 by omega)) (by decide))
          have hw1 : wrap64 ((k : Int) + 1) = (k : Int) + 1 := by unfold wrap64; omega
          have hw2 : wrap64 (2 * (i : Int)) = 2 * (i : Int) := by unfold wrap64; omega
          have hw3 : wrap64 (2 * (i : Int) + 1) = 2 * (i : Int) + 1 := by unfold wrap64; omega
          have hlen : ∃ n, (flat (.inner y z l r)).length = n ∧ 3 ≤ n := ⟨_, rfl, by have := flat_pos l; have := flat_pos r; simp [flat]; omega⟩
          obtain ⟨n, hn3, h3⟩ := hlen
          rw [e1] at HP
          replace HP : Hid (Spots _ _ (flat (.inner y z l r)) [vp]) := HP
          obtain ⟨Ap, cp, rfl, _, _⟩ := spots_len HP.out n hn3
          have hd3 : decide (n < 3) = false := decide_eq_false (by omega)
          have hd4 : decide ((n : Int) < 3) = false := decide_eq_false (by omega)
          clear e1 e2 hs hn3 hr hl HP hi hn
          have qb00 := b0.c 0 _ rfl
          have qb01 := b0.c 1 _ rfl
          go_wp2_with fail
          refine (show Calls _ _ _ _ (fun e W' => e = .returned (.tuple #[vM a b, .bool true]) ∧ Below W2.heap.size W2 W') from by have := sOf_any _ ot (k : Int) (i : Int) W2 HX.out hok hht; rwa [HWH.out] at this).mono ?_
          rintro e W3 ⟨rfl, hb⟩
          replace HX := Lib.hid (keeps_spots _ _ _ _ _ _ HX.out hb hb.size)
          replace b0 := b0.next hb
          replace B := B.trans (hb.mono B.size)
          clear hb
          clear qb00 qb01
          have qb00 := fun o => (b0.next (below_new W3 o)).c 0 _ rfl
          have qb01 := fun o => (b0.next (below_new W3 o)).c 1 _ rfl
          go_wp2_with fail
          obtain ⟨W4, hW, b6, hb⟩ : ∃ W, W3.alloc (.cells #[.int .i64 a, .int .i64 b] 26) = W ∧ Box W W3.heap.size [.int .i64 a, .int .i64 b] ∧ Below W3.heap.size W3 W := ⟨_, rfl, Box.new W3 _ _, below_new _ _⟩
          rw [hW]
          obtain ⟨g6, hg⟩ : ∃ g, W3.heap.size = g := ⟨_, rfl⟩
          rw [hg] at b6
          try rw [hg]
          replace HX := Lib.hid (keeps_spots _ _ _ _ _ _ HX.out hb hb.size)
          replace b0 := b0.next hb
          replace B := B.trans (hb.mono B.size)
          clear hb
          clear hW hg
          clear qb00 qb01
          refine (show Calls _ _ _ _ (fun e W' => e = .returned (.tuple #[vM x8 y8, .bool true]) ∧ Below W4.heap.size W4 W') from by have := sOf_any _ ot ((k : Int) + 1) (2 * (i : Int)) W4 HX.out hok hht; rwa [HK.out.1] at this).mono ?_
          rintro e W5 ⟨rfl, hb⟩
          replace HX := Lib.hid (keeps_spots _ _ _ _ _ _ HX.out hb hb.size)
          replace b0 := b0.next hb
          replace b6 := b6.next hb
          replace B := B.trans (hb.mono B.size)
          clear hb
          have qb00 := fun o => (b0.next (below_new W5 o)).c 0 _ rfl
          have qb01 := fun o => (b0.next (below_new W5 o)).c 1 _ rfl
          go_wp2_with fail
          obtain ⟨W6, hW, b8, hb⟩ : ∃ W, W5.alloc (.cells #[.int .i64 x8, .int .i64 y8] 26) = W ∧ Box W W5.heap.size [.int .i64 x8, .int .i64 y8] ∧ Below W5.heap.size W5 W := ⟨_, rfl, Box.new W5 _ _, below_new _ _⟩
          rw [hW]
          obtain ⟨g8, hg⟩ : ∃ g, W5.heap.size = g := ⟨_, rfl⟩
          rw [hg] at b8
          try rw [hg]
          replace HX := Lib.hid (keeps_spots _ _ _ _ _ _ HX.out hb hb.size)
          replace b0 := b0.next hb
          replace b6 := b6.next hb
          replace B := B.trans (hb.mono B.size)
          clear hb
          clear hW hg
          clear qb00 qb01
          refine (show Calls _ _ _ _ (fun e W' => e = .returned (.tuple #[vM a b, .bool true]) ∧ Below W6.heap.size W6 W') from by have := sOf_any _ ot ((k : Int) + 1) (2 * (i : Int) + 1) W6 HX.out hok hht; rwa [HK.out.2] at this).mono ?_
          rintro e W7 ⟨rfl, hb⟩
          replace HX := Lib.hid (keeps_spots _ _ _ _ _ _ HX.out hb hb.size)
          replace b0 := b0.next hb
          replace b6 := b6.next hb
          replace b8 := b8.next hb
          replace B := B.trans (hb.mono B.size)
          clear hb
          go_wp2_with fail
          obtain ⟨W8, hW, b10, hb⟩ : ∃ W, W7.alloc (.cells #[.int .i64 a, .int .i64 b] 26) = W ∧ Box W W7.heap.size [.int .i64 a, .int .i64 b] ∧ Below W7.heap.size W7 W := ⟨_, rfl, Box.new W7 _ _, below_new _ _⟩
          rw [hW]
          obtain ⟨g10, hg⟩ : ∃ g, W7.heap.size = g := ⟨_, rfl⟩
          rw [hg] at b10
          try rw [hg]
          replace HX := Lib.hid (keeps_spots _ _ _ _ _ _ HX.out hb hb.size)
          replace b0 := b0.next hb
          replace b6 := b6.next hb
          replace b8 := b8.next hb
          replace B := B.trans (hb.mono B.size)
          clear hb
          clear hW hg
          refine (awake13_any W8).mono ?_
          rintro e W9 ⟨rfl, hb⟩
          replace b6 := b6.next hb
          replace b8 := b8.next hb
          replace b10 := b10.next hb
          replace B := B.trans (hb.mono B.size)
          clear hb
          have qb60 := b6.c 0 _ rfl
          have qb61 := b6.c 1 _ rfl
          have qb80 := b8.c 0 _ rfl
          have qb81 := b8.c 1 _ rfl
          have qb100 := b10.c 0 _ rfl
          have qb101 := b10.c 1 _ rfl
          have hne' : a = x8 → ¬b = y8 := fun e1 e2 => hne (by rw [e1, e2])
          clear hne
          by_cases ea : a = x8
          · have hnb := hne' ea
            subst ea
            clear hne'
            go_wp2
            go_ret
            exact ⟨rfl, B⟩
          · clear hne'
            go_wp2
            go_ret
            exact ⟨rfl, B⟩

end Go.Proofs.Ytlmkgkfildgkgaa
