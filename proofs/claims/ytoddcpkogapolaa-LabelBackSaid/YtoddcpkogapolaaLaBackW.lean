/- lodgelaw10.LabelBack answers true, whatever slice of spots and member come in, and leaves memory below as it was. No condition. -/
import Derived.Test.YtoddcpkogapolaaAwake10
import Derived.Test.YtoddcpkogapolaaPhaseR
import Derived.Test.YtoddcpkogapolaaRefJ
import Derived.Test.YtoddcpkogapolaaLens
namespace Go.Proofs.Ytoddcpkogapolaa
open Go Go.RowKit
set_option linter.unusedVariables false

/-- On the way up from a member's leaf. -/
theorem way_part {t : Tr} {m : Int × Int} {p : List Bool} (h : off t m = some p) (hp : p.length ≤ 60) (j : Nat) (hj : j ≤ p.length) : ∃ u, partO (some t) ((p.length - j : Nat) : Int) ((idx p / 2 ^ j : Nat) : Int) = flat u ∧ m ∈ lv (flat u) := by
  obtain ⟨o, ho⟩ := off_sub t m p h
  obtain ⟨o', u, hu, hm⟩ := sub_mem t p (p.length - j) o m.1 m.2 ho
  have hi : idx p / 2 ^ j < 2 ^ (p.length - j) := by
    rw [Nat.div_lt_iff_lt_mul (Nat.two_pow_pos j), ← Nat.pow_add, show p.length - j + j = p.length by omega]
    exact idx_lt p
  have hpt : path (p.length - j) (idx p / 2 ^ j) = p.take (p.length - j) := by
    rw [path_ups, show p.length - j + j = p.length by omega, path_idx]
  refine ⟨u, ?_, hm⟩
  rw [partO_nat (some t) (by omega) hi, hpt]
  simp [subO, hu]
set_option maxRecDepth 100000 in
set_option maxHeartbeats 8000000 in
theorem labelBack_walk (A : Option Addr) (la ca : Nat) (c : Array Value) (w : World) (h : ∃ xs, Spots w.heap.size w xs [.slice A la ca]) (h' : ∃ m, IsM w.heap.size w m c.toList) :
    Calls Try.prog 5 #[.slice A la ca, .agg c] w fun e w' => e = .returned (.bool true) ∧ Below w.heap.size w w' := by
  obtain ⟨xs, hx⟩ := h
  have HX := Lib.hid hx
  obtain ⟨_, _, e, hlc, hcm, _⟩ := spots_at hx
  simp only [Value.slice.injEq] at e
  obtain ⟨rfl, hla, rfl⟩ := e
  have hc1 : ca ≤ 9223372036854775807 := Nat.le_trans hcm (by decide)
  subst hla
  clear hx hcm
  obtain ⟨⟨m1, m2⟩, hm⟩ := h'
  obtain rfl : c = #[.int .i64 m1, .int .i64 m2] := by
    have hm : c.toList = [.int .i64 m1, .int .i64 m2] := hm
    rw [← Array.toArray_toList (xs := c), hm]
  clear hm
  obtain ⟨b, hb1, hb2⟩ := small10_any xs
  have HSM := Lib.hid hb2
  clear hb2
  go_enter Try.func5, Try.ntmps5
  go_wp2_with fail
  obtain ⟨W0, hW0, b0, B⟩ : ∃ W0, w.alloc (.cells #[.int .i64 m1, .int .i64 m2] 35) = W0 ∧ Box W0 w.heap.size [.int .i64 m1, .int .i64 m2] ∧ Below w.heap.size w W0 := ⟨_, rfl, Box.new w _ _, below_new _ _⟩
  rw [hW0]
  clear hW0
  replace HX := Lib.hid (keeps_spots _ _ _ _ _ _ HX.out B B.size)
  refine (HSM.out _ W0 HX.out).mono ?_
  rintro e W1 ⟨rfl, hb⟩
  replace b0 := b0.next hb
  replace HX := Lib.hid (keeps_spots _ _ _ _ _ _ HX.out hb hb.size)
  replace B := B.trans (hb.mono B.size)
  clear hb
  cases b with
  | false =>
    clear hb1
    go_wp2_with fail
    refine (awake10_any W1).mono ?_
    rintro e W9 ⟨rfl, B9⟩
    go_wp2
    go_ret
    exact ⟨rfl, B.trans (B9.mono B.size)⟩
  | true =>
    obtain ⟨ot, rfl, hok, hht⟩ := hb1 rfl
    have hn : (spo ot).length ≤ 1000000 := by have := (okT_parts hok).1; omega
    clear hb1
    have q0 := b0.c 0 _ rfl
    have q1 := b0.c 1 _ rfl
    go_wp2_with fail
    refine (lOf_any _ ot m1 m2 W1 HX.out hok hht).mono ?_
    rintro e W2 ⟨rfl, hb⟩
    replace b0 := b0.next hb
    replace HX := Lib.hid (keeps_spots _ _ _ _ _ _ HX.out hb hb.size)
    replace B := B.trans (hb.mono B.size)
    clear hb
    clear q0 q1
    have q0 := fun o => (b0.next (below_new W2 o)).c 0 _ rfl
    have q1 := fun o => (b0.next (below_new W2 o)).c 1 _ rfl
    cases hof : offO ot (m1, m2) with
    | none =>
      have HP := Lib.hid (ofO_none hof)
      have HWY : Hid (wayO ot (m1, m2) = []) := Lib.hid (by simp [wayO, hof])
      have HNI : Hid (decide ((m1, m2) ∈ lv (spo ot)) = false) := Lib.hid (by
        rw [decide_eq_false_iff_not]
        cases ot with
        | none => simp [spo, lv]
        | some t => exact (off_none t (m1, m2)).1 hof)
      rw [HP.out]
      clear hof
      go_wp2_with fail
      obtain ⟨W3, hW, hb⟩ : ∃ W, W2.alloc (.cells #[.int .i64 0, .int .i64 0] 24) = W ∧ Below W2.heap.size W2 W := ⟨_, rfl, below_new _ _⟩
      rw [hW]
      replace b0 := b0.next hb
      replace HX := Lib.hid (keeps_spots _ _ _ _ _ _ HX.out hb hb.size)
      replace B := B.trans (hb.mono B.size)
      clear hb
      clear hW q0 q1
      refine (lWay_any _ ot m1 m2 W3 HX.out hok hht).mono ?_
      rintro e W4 ⟨v7, rfl, h7, hb⟩
      replace b0 := b0.next hb
      replace HX := Lib.hid (keeps_spots _ _ _ _ _ _ HX.out hb hb.size)
      replace B := B.trans (hb.mono B.size)
      clear hb
      rw [HWY.out] at h7
      obtain ⟨A7, c7, rfl, _, _⟩ := mems_len h7 0 rfl
      clear h7
      go_wp2_with fail
      refine wp_region_results (fun r i => ([.bool true, .bool true, .slice A7 0 c7, .int .i64 0, .bool true, .bool true, .bool true, .slice A (spo ot).length ca, (r 1), .agg #[.int .i64 m1, .int .i64 m2], .bool false, .bool true, .bool true, .bool true] : List Value).getD i undef) [0, 8, 10] [0, 1, 1, 1, 1, 1, 1, 1, 1, 1, 2, 3, 3, 3] (fun r q w' => (Below W4.heap.size W4 w') ∧ (1 < q → Mems w'.heap.size w' (lv (spo ot)) [(r 1)])) (by kernel_rfl) (by kernel_rfl) (fun r => ⟨⟨rfl, rfl, rfl, Nat.le_refl _, fun _ _ => rfl⟩, fun h => absurd h (Nat.not_lt_zero _)⟩) ?_ ?_
      · refine ObsR_of_ends (by kernel_rfl) ?_
        intro r Fr hEA
        refine ⟨?_, ?_, ?_, ?_, ?_, ?_, ?_, ?_, ?_, ?_, ?_, ?_, ?_, ?_, trivial⟩
        · refine obR_call (q := 0) (f := 14) (args := #[]) (want_none rfl) (by kernel_rfl) (fun w' => by simp [go_sem]) ?_
          intro w' hw
          refine (awake10_any w').mono ?_
          rintro e w2 ⟨rfl, hb⟩
          exact ⟨_, rfl, fun r' hr hv => ⟨rfl, ⟨hw.1.trans (hb.mono hw.1.size), fun h => absurd h (by decide)⟩⟩⟩
        · exact obR_move _ rfl (want_none rfl) (by kernel_rfl) (eval_dst hEA (j := 0) rfl rfl)
        · exact obR_move _ rfl (want_is hEA (g := 1) (x := true) (b := true) rfl rfl rfl rfl) (by kernel_rfl) (eval_out hEA (d := 7) (by kernel_rfl))
        · refine obR_val (want_is hEA (g := 1) (x := true) (b := true) rfl rfl rfl rfl) (by kernel_rfl) (fun ph w' hp hpm hw => ?_)
          have e26 : Fr.tmps[26]? = some (.slice A7 0 c7) := hEA.dst 2 _ 26 rfl rfl; simp [e26, go_sem]
        · refine obR_val (want_is hEA (g := 1) (x := true) (b := true) rfl rfl rfl rfl) (by kernel_rfl) (fun ph w' hp hpm hw => ?_)
          have e27 : Fr.tmps[27]? = some (.int .i64 0) := hEA.dst 3 _ 27 rfl rfl; simp [execOp, e27, go_sem]
        · refine obR_val (want_none rfl) (by kernel_rfl) (fun ph w' hp hpm hw => ?_)
          have e25 : Fr.tmps[25]? = some (.bool true) := hEA.dst 1 _ 25 rfl rfl; have e28 : Fr.tmps[28]? = some (.bool true) := hEA.dst 4 _ 28 rfl rfl; simp [execOp, e25, e28, go_sem]
        · exact obR_move _ rfl (want_none rfl) (by kernel_rfl) (eval_dst hEA (j := 5) rfl rfl)
        · exact obR_move _ rfl (want_is hEA (g := 6) (x := true) (b := true) rfl rfl rfl rfl) (by kernel_rfl) (eval_out hEA (d := 0) (by kernel_rfl))
        · refine obR_call (q := 1) (f := 27) (args := #[.slice A (spo ot).length ca]) (want_is hEA (g := 6) (x := true) (b := true) rfl rfl rfl rfl) (by kernel_rfl) (fun w' => by have e31 : Fr.tmps[31]? = some (.slice A (spo ot).length ca) := hEA.dst 7 _ 31 rfl rfl; simp [e31, go_sem]) ?_
          intro w' hw
          refine (refLeaves_any _ (spo ot) w' (keeps_spots _ _ _ _ _ _ HX.out hw.1 hw.1.size) hn).mono ?_
          rintro e w2 ⟨v', rfl, hs, hb⟩
          exact ⟨_, rfl, fun r' hr hv => ⟨hv, ⟨hw.1.trans (hb.mono hw.1.size), fun _ => by rw [hv]; exact hs⟩⟩⟩
        · refine obR_val (want_is hEA (g := 6) (x := true) (b := true) rfl rfl rfl rfl) (by kernel_rfl) (fun ph w' hp hpm hw => ?_)
          have hc0 := (hw.1.cell (p := ⟨w.heap.size, 0, none⟩) b0.lt).trans (b0.c 0 _ rfl)
          have hc1 := (hw.1.cell (p := ⟨w.heap.size, 1, none⟩) b0.lt).trans (b0.c 1 _ rfl)
          have e3 : Fr.tmps[3]? = some (.pointer (some ⟨w.heap.size, 0, none⟩)) := at_out hEA (d := 3) (by kernel_rfl); simp [execOp, e3, hc0, hc1, go_sem]
        · refine obR_call (q := 2) (f := 26) (args := #[(r 1), .agg #[.int .i64 m1, .int .i64 m2]]) (want_is hEA (g := 6) (x := true) (b := true) rfl rfl rfl rfl) (by kernel_rfl) (fun w' => by have e32 : Fr.tmps[32]? = some ((r 1)) := hEA.dst 8 _ 32 rfl rfl; have e33 : Fr.tmps[33]? = some (.agg #[.int .i64 m1, .int .i64 m2]) := hEA.dst 9 _ 33 rfl rfl; simp [e32, e33, go_sem]) ?_
          intro w' hw
          refine ((show Calls _ _ _ _ (fun e W' => e = .returned (.bool false) ∧ Below w'.heap.size w' W') from by have := refHas_any (r 1) (lv (spo ot)) m1 m2 w' (hw.2 (by decide)); rwa [HNI.out] at this)).mono ?_
          rintro e w2 ⟨rfl, hb⟩
          exact ⟨_, rfl, fun r' hr hv => ⟨rfl, ⟨hw.1.trans (hb.mono hw.1.size), fun _ => by rw [hr 1 (by decide)]; exact keeps_mems _ _ _ _ _ _ (hw.2 (by decide)) hb hb.size⟩⟩⟩
        · refine obR_val (want_is hEA (g := 6) (x := true) (b := true) rfl rfl rfl rfl) (by kernel_rfl) (fun ph w' hp hpm hw => ?_)
          have e34 : Fr.tmps[34]? = some (.bool false) := hEA.dst 10 _ 34 rfl rfl; simp [execOp, e34, go_sem]
        · refine obR_val (want_none rfl) (by kernel_rfl) (fun ph w' hp hpm hw => ?_)
          have e30 : Fr.tmps[30]? = some (.bool true) := hEA.dst 6 _ 30 rfl rfl; have e35 : Fr.tmps[35]? = some (.bool true) := hEA.dst 11 _ 35 rfl rfl; simp [execOp, e30, e35, go_sem]
        · refine obR_val (want_none rfl) (by kernel_rfl) (fun ph w' hp hpm hw => ?_)
          have e36 : Fr.tmps[36]? = some (.bool true) := hEA.dst 12 _ 36 rfl rfl; simp [execOp, e36, go_sem]
      · intro r w' hw
        simp only [laid, Act.put, List.setIfInBounds_toArray, List.set_cons_succ, List.set_cons_zero, List.getD_cons_succ, List.getD_cons_zero, Nat.zero_add, Nat.reduceAdd]
        go_wp2
        go_ret
        exact ⟨rfl, B.trans (hw.1.mono B.size)⟩
    | some p =>
      obtain ⟨t, rfl⟩ : ∃ t, ot = some t := by
        cases ot with
        | none => cases hof
        | some t => exact ⟨t, rfl⟩
      have hof2 : off t (m1, m2) = some p := hof
      have hp60 : p.length ≤ 60 := by
        have h1 := off_high hof2
        have h2 : ht t ≤ 60 := hht
        omega
      have HWP := Lib.hid (way_part hof2 hp60)
      have HP : Hid (ofO (some t) (m1, m2) = (((p.length : Int), (idx p : Int)), true)) := Lib.hid (ofO_some hof)
      have HWY : Hid (wayO (some t) (m1, m2) = ups p.length (idx p)) := Lib.hid (by simp [wayO, hof])
      have HPL : Hid (partO (some t) (p.length : Int) (idx p : Int) = [(true, m1, m2)]) := Lib.hid (by
        obtain ⟨o, ho⟩ := off_sub t (m1, m2) p hof2
        rw [partO_nat (some t) hp60 (idx_lt p), path_idx]
        simp [subO, ho, flat])
      rw [HP.out]
      clear hof hof2
      have HUG := Lib.hid (ups_get p.length (idx p))
      have HUL := Lib.hid (ups_length p.length (idx p))
      have HLT := Lib.hid (Nat.div_eq_of_lt (idx_lt p))
      generalize hotg : some t = ot at *
      obtain ⟨n, hnn⟩ : ∃ n, p.length = n := ⟨_, rfl⟩
      obtain ⟨ix, hii⟩ : ∃ i, idx p = i := ⟨_, rfl⟩
      rw [hnn, hii] at HWP HP HWY HPL HUG HUL HLT
      rw [hnn] at hp60
      rw [hnn, hii]
      obtain ⟨iv, hix⟩ : ∃ i : Int, (ix : Int) = i := ⟨_, rfl⟩
      have HIX := Lib.hid hix
      rw [hix] at HPL
      rw [hix]
      clear hnn hii hix hotg
      go_wp2_with fail
      obtain ⟨W3, hW, b5, hb⟩ : ∃ W, W2.alloc (.cells #[.int .i64 (n : Int), .int .i64 iv] 24) = W ∧ Box W W2.heap.size [.int .i64 (n : Int), .int .i64 iv] ∧ Below W2.heap.size W2 W := ⟨_, rfl, Box.new W2 _ _, below_new _ _⟩
      rw [hW]
      obtain ⟨g5, hg⟩ : ∃ g, W2.heap.size = g := ⟨_, rfl⟩
      rw [hg] at b5
      try rw [hg]
      replace b0 := b0.next hb
      replace HX := Lib.hid (keeps_spots _ _ _ _ _ _ HX.out hb hb.size)
      replace B := B.trans (hb.mono B.size)
      clear hb
      clear hW hg q0 q1
      refine (lWay_any _ ot m1 m2 W3 HX.out hok hht).mono ?_
      rintro e W4 ⟨v7, rfl, h7, hb⟩
      replace b0 := b0.next hb
      replace b5 := b5.next hb
      replace HX := Lib.hid (keeps_spots _ _ _ _ _ _ HX.out hb hb.size)
      replace B := B.trans (hb.mono B.size)
      clear hb
      rw [HWY.out] at h7
      have H7 := Lib.hid h7
      obtain ⟨A7, c7, rfl, hlc7, hcm7, hp7⟩ := mems_at h7
      have hc7 : c7 ≤ 9223372036854775807 := Nat.le_trans hcm7 (by decide)
      have HP7 := Lib.hid hp7
      obtain ⟨g7, o7, rfl, hg7, y0, y1⟩ := hp7 0 (by rw [HUL.out]; omega)
      obtain ⟨_, _, e7, _, z0, z1⟩ := hp7 n (by rw [HUL.out]; omega)
      simp only [Option.some.injEq, Addr.mk.injEq, and_true] at e7
      obtain ⟨rfl, rfl⟩ := e7
      rw [HUG.out 0 (by rw [HUL.out]; omega)] at y0 y1
      rw [HUG.out n (by rw [HUL.out]; omega)] at z0 z1
      simp only [Nat.sub_zero, Nat.pow_zero, Nat.div_one, HIX.out, Nat.zero_mul, Nat.add_zero] at y0 y1
      simp only [Nat.sub_self, HLT.out] at z0 z1
      replace z0 : W4.cell? ⟨g7, o7 + n * 2, none⟩ = some (.int .i64 0) := z0
      replace z1 : W4.cell? ⟨g7, o7 + n * 2 + 1, none⟩ = some (.int .i64 0) := z1
      obtain ⟨k7, hk7e⟩ : ∃ k, (ups n ix).length = k := ⟨_, rfl⟩
      have hk7n : k7 = n + 1 := by rw [← hk7e, HUL.out]
      rw [hk7e] at hlc7
      rw [hk7e]
      have HK7 := Lib.hid hk7n
      have HK7E := Lib.hid hk7e
      have hp7 : 0 < k7 := by omega
      have hn7 : (n : Int) < (k7 : Int) := by omega
      have hn0 : (0 : Int) ≤ (n : Int) := by omega
      have hk7 : IntKind.i64.wrap ((n : Int) + 1) = (k7 : Int) := by rw [IntKind.wrap_i64]; omega
      clear h7 hcm7 hk7e hk7n
      go_wp2_with fail
      refine wp_region_plan (fun i => ([.slice (some ⟨g7, o7, none⟩) k7 c7, .int .i64 (k7 : Int), .pointer (some ⟨g5, 0, none⟩), .int .i64 (n : Int), .int .i64 (k7 : Int), .bool false, .bool false, .slice (some ⟨g7, o7, none⟩) k7 c7, .pointer (some ⟨g7, o7, none⟩), .agg #[.int .i64 (n : Int), .int .i64 iv], .agg #[.int .i64 (n : Int), .int .i64 iv], .bool false, .bool false, .bool false, .slice (some ⟨g7, o7, none⟩) k7 c7, .pointer (some ⟨g5, 0, none⟩), .int .i64 (n : Int), .pointer (some ⟨g7, o7 + n * 2, none⟩), .agg #[.int .i64 0, .int .i64 0], .agg #[.int .i64 0, .int .i64 0], .bool false, .bool false] : List Value).getD i undef) [] [0, 0, 0, 0, 0, 0, 0, 0, 0, 0, 0, 0, 0, 0, 0, 0, 0, 0, 0, 0, 0, 0] (fun _ w' => Below W4.heap.size W4 w') (by kernel_rfl) (by kernel_rfl) (⟨rfl, rfl, rfl, Nat.le_refl _, fun _ _ => rfl⟩) ?_ ?_
      · refine Obs_of_ends (by kernel_rfl) ?_
        intro Fr hEA
        refine ⟨?_, ?_, ?_, ?_, ?_, ?_, ?_, ?_, ?_, ?_, ?_, ?_, ?_, ?_, ?_, ?_, ?_, ?_, ?_, ?_, ?_, ?_, trivial⟩
        · exact ob_move _ rfl (want_none rfl) (by kernel_rfl) (eval_out hEA (d := 7) (by kernel_rfl))
        · refine ob_val (want_none rfl) (by kernel_rfl) (fun ph w' hp hpm hw => ?_)
          have e37 : Fr.tmps[37]? = some (.slice (some ⟨g7, o7, none⟩) k7 c7) := hEA.dst 0 _ 37 rfl rfl; simp [e37, go_sem]
        · refine ob_val (want_none rfl) (by kernel_rfl) (fun ph w' hp hpm hw => ?_)
          have e5 : Fr.tmps[5]? = some (.pointer (some ⟨g5, 0, none⟩)) := at_out hEA (d := 5) (by kernel_rfl); simp [execOp, e5, go_sem]
        · refine ob_val (want_none rfl) (by kernel_rfl) (fun ph w' hp hpm hw => ?_)
          have hc0 := (hw.cell (p := ⟨g5, 0, none⟩) b5.lt).trans (b5.c 0 _ rfl)
          have e39 : Fr.tmps[39]? = some (.pointer (some ⟨g5, 0, none⟩)) := hEA.dst 2 _ 39 rfl rfl; simp [execOp, e39, hc0, go_sem]
        · refine ob_val (want_none rfl) (by kernel_rfl) (fun ph w' hp hpm hw => ?_)
          have e40 : Fr.tmps[40]? = some (.int .i64 (n : Int)) := hEA.dst 3 _ 40 rfl rfl; simp [execOp, e40, hk7, go_sem]
        · refine ob_val (want_none rfl) (by kernel_rfl) (fun ph w' hp hpm hw => ?_)
          have e38 : Fr.tmps[38]? = some (.int .i64 (k7 : Int)) := hEA.dst 1 _ 38 rfl rfl; have e41 : Fr.tmps[41]? = some (.int .i64 (k7 : Int)) := hEA.dst 4 _ 41 rfl rfl; simp [execOp, e38, e41, go_sem]
        · exact ob_move _ rfl (want_none rfl) (by kernel_rfl) (eval_dst hEA (j := 5) rfl rfl)
        · exact ob_move _ rfl (want_is hEA (g := 6) (x := false) (b := false) rfl rfl rfl rfl) (by kernel_rfl) (eval_out hEA (d := 7) (by kernel_rfl))
        · refine ob_val (want_is hEA (g := 6) (x := false) (b := false) rfl rfl rfl rfl) (by kernel_rfl) (fun ph w' hp hpm hw => ?_)
          have e44 : Fr.tmps[44]? = some (.slice (some ⟨g7, o7, none⟩) k7 c7) := hEA.dst 7 _ 44 rfl rfl; simp [execOp, e44, hp7, go_sem]
        · refine ob_val (want_is hEA (g := 6) (x := false) (b := false) rfl rfl rfl rfl) (by kernel_rfl) (fun ph w' hp hpm hw => ?_)
          have hc0 := (hw.cell (p := ⟨g7, o7, none⟩) hg7).trans y0
          have hc1 := (hw.cell (p := ⟨g7, o7 + 1, none⟩) hg7).trans y1
          have e45 : Fr.tmps[45]? = some (.pointer (some ⟨g7, o7, none⟩)) := hEA.dst 8 _ 45 rfl rfl; simp [execOp, e45, hc0, hc1, go_sem]
        · refine ob_val (want_is hEA (g := 6) (x := false) (b := false) rfl rfl rfl rfl) (by kernel_rfl) (fun ph w' hp hpm hw => ?_)
          have hc0 := (hw.cell (p := ⟨g5, 0, none⟩) b5.lt).trans (b5.c 0 _ rfl)
          have hc1 := (hw.cell (p := ⟨g5, 1, none⟩) b5.lt).trans (b5.c 1 _ rfl)
          have e5 : Fr.tmps[5]? = some (.pointer (some ⟨g5, 0, none⟩)) := at_out hEA (d := 5) (by kernel_rfl); simp [execOp, e5, hc0, hc1, go_sem]
        · refine ob_val (want_is hEA (g := 6) (x := false) (b := false) rfl rfl rfl rfl) (by kernel_rfl) (fun ph w' hp hpm hw => ?_)
          have e46 : Fr.tmps[46]? = some (.agg #[.int .i64 (n : Int), .int .i64 iv]) := hEA.dst 9 _ 46 rfl rfl; have e47 : Fr.tmps[47]? = some (.agg #[.int .i64 (n : Int), .int .i64 iv]) := hEA.dst 10 _ 47 rfl rfl; simp [execOp, e46, e47, go_sem]
        · refine ob_val (want_none rfl) (by kernel_rfl) (fun ph w' hp hpm hw => ?_)
          have e43 : Fr.tmps[43]? = some (.bool false) := hEA.dst 6 _ 43 rfl rfl; have e48 : Fr.tmps[48]? = some (.bool false) := hEA.dst 11 _ 48 rfl rfl; simp [execOp, e43, e48, go_sem]
        · exact ob_move _ rfl (want_none rfl) (by kernel_rfl) (eval_dst hEA (j := 12) rfl rfl)
        · exact ob_move _ rfl (want_is hEA (g := 13) (x := false) (b := false) rfl rfl rfl rfl) (by kernel_rfl) (eval_out hEA (d := 7) (by kernel_rfl))
        · refine ob_val (want_is hEA (g := 13) (x := false) (b := false) rfl rfl rfl rfl) (by kernel_rfl) (fun ph w' hp hpm hw => ?_)
          have e5 : Fr.tmps[5]? = some (.pointer (some ⟨g5, 0, none⟩)) := at_out hEA (d := 5) (by kernel_rfl); simp [execOp, e5, go_sem]
        · refine ob_val (want_is hEA (g := 13) (x := false) (b := false) rfl rfl rfl rfl) (by kernel_rfl) (fun ph w' hp hpm hw => ?_)
          have hc0 := (hw.cell (p := ⟨g5, 0, none⟩) b5.lt).trans (b5.c 0 _ rfl)
          have e52 : Fr.tmps[52]? = some (.pointer (some ⟨g5, 0, none⟩)) := hEA.dst 15 _ 52 rfl rfl; simp [execOp, e52, hc0, go_sem]
        · refine ob_val (want_is hEA (g := 13) (x := false) (b := false) rfl rfl rfl rfl) (by kernel_rfl) (fun ph w' hp hpm hw => ?_)
          have e51 : Fr.tmps[51]? = some (.slice (some ⟨g7, o7, none⟩) k7 c7) := hEA.dst 14 _ 51 rfl rfl; have e53 : Fr.tmps[53]? = some (.int .i64 (n : Int)) := hEA.dst 16 _ 53 rfl rfl; simp [execOp, e51, e53, hn7, hn0, go_sem]
        · refine ob_val (want_is hEA (g := 13) (x := false) (b := false) rfl rfl rfl rfl) (by kernel_rfl) (fun ph w' hp hpm hw => ?_)
          have hc0 := (hw.cell (p := ⟨g7, o7 + n * 2, none⟩) hg7).trans z0
          have hc1 := (hw.cell (p := ⟨g7, o7 + n * 2 + 1, none⟩) hg7).trans z1
          have e54 : Fr.tmps[54]? = some (.pointer (some ⟨g7, o7 + n * 2, none⟩)) := hEA.dst 17 _ 54 rfl rfl; simp [execOp, e54, hc0, hc1, go_sem]
        · refine ob_val (want_is hEA (g := 13) (x := false) (b := false) rfl rfl rfl rfl) (by kernel_rfl) (fun ph w' hp hpm hw => ?_)
          simp [execOp, go_sem]
        · refine ob_val (want_is hEA (g := 13) (x := false) (b := false) rfl rfl rfl rfl) (by kernel_rfl) (fun ph w' hp hpm hw => ?_)
          have e55 : Fr.tmps[55]? = some (.agg #[.int .i64 0, .int .i64 0]) := hEA.dst 18 _ 55 rfl rfl; have e56 : Fr.tmps[56]? = some (.agg #[.int .i64 0, .int .i64 0]) := hEA.dst 19 _ 56 rfl rfl; simp [execOp, e55, e56, go_sem]
        · refine ob_val (want_none rfl) (by kernel_rfl) (fun ph w' hp hpm hw => ?_)
          have e50 : Fr.tmps[50]? = some (.bool false) := hEA.dst 13 _ 50 rfl rfl; have e57 : Fr.tmps[57]? = some (.bool false) := hEA.dst 20 _ 57 rfl rfl; simp [execOp, e50, e57, go_sem]
      · intro w' hw
        simp only [laid, Act.put, List.setIfInBounds_toArray, List.set_cons_succ, List.set_cons_zero, List.getD_cons_succ, List.getD_cons_zero, Nat.zero_add, Nat.reduceAdd]
        obtain ⟨W5, hW5⟩ : ∃ W5, w' = W5 := ⟨_, rfl⟩
        rw [hW5] at hw
        rw [hW5]
        have hb : Below W4.heap.size W4 W5 := hw
        have HP75 : Hid (∀ k, (hk : k < (ups n ix).length) → W5.cell? ⟨g7, o7 + k * 2, none⟩ = some (.int .i64 (ups n ix)[k].1) ∧ W5.cell? ⟨g7, o7 + k * 2 + 1, none⟩ = some (.int .i64 (ups n ix)[k].2)) := Lib.hid fun k hk => by
          obtain ⟨_, _, e7, _, a0, a1⟩ := HP7.out k hk
          simp only [Option.some.injEq, Addr.mk.injEq, and_true] at e7
          obtain ⟨rfl, rfl⟩ := e7
          exact ⟨(hb.cell (p := ⟨_, _, none⟩) hg7).trans a0, (hb.cell (p := ⟨_, _, none⟩) hg7).trans a1⟩
        have hg75 : g7 < W5.heap.size := Nat.lt_of_lt_of_le hg7 hb.size
        replace b0 := b0.next hb
        replace b5 := b5.next hb
        replace HX := Lib.hid (keeps_spots _ _ _ _ _ _ HX.out hb hb.size)
        replace B := B.trans (hb.mono B.size)
        clear hb
        clear hw hW5 y0 y1 z0 z1 HP7 hk7 hg7 hp7 hn7
        have HB0 := Lib.hid b0
        have HB5 := Lib.hid b5
        clear b0 b5
        go_wp2_with fail
        go_loopw [8] (fun x wr => ∃ (k : Nat) (wq : World), wq = wr ∧ k ≤ k7 ∧ x = .int .i64 (k : Int) ∧ Below W5.heap.size W5 wr) (fun x _ => k7 - (intOf x).toNat)
        case atStart => exact ⟨0, _, rfl, Nat.zero_le _, rfl, Below.refl _ _⟩
        case round =>
          obtain ⟨k, wr, rfl, hk, rfl, B2⟩ := hrel
          have b0 := HB0.out.next B2
          have b5 := HB5.out.next B2
          by_cases hlt : k < k7
          · have hd : decide (k < k7) = true := by simpa using hlt
            have hkn : k ≤ n := by have := HK7.out; omega
            have hkl : k < (ups n ix).length := by rw [HK7E.out]; exact hlt
            obtain ⟨y0, y1⟩ := HP75.out k hkl
            rw [HUG.out k hkl] at y0 y1
            replace y0 := (B2.cell (p := ⟨g7, o7 + k * 2, none⟩) hg75).trans y0
            replace y1 := (B2.cell (p := ⟨g7, o7 + k * 2 + 1, none⟩) hg75).trans y1
            have hsub : ((n - k : Nat) : Int) = (n : Int) - (k : Int) := by omega
            obtain ⟨u, hu1, hu2⟩ := HWP.out k (by omega)
            rw [hsub] at hu1
            simp only [hsub] at y0 y1
            obtain ⟨y2, hy2⟩ : ∃ y : Int, ((ix / 2 ^ k : Nat) : Int) = y := ⟨_, rfl⟩
            rw [hy2] at y1 hu1
            have HPU := Lib.hid hu1
            have HMU := Lib.hid (decide_eq_true hu2)
            have hul : (flat u).length ≤ 1000000 := by
              rcases at_part ot ((n : Int) - (k : Int)) y2 with ⟨_, e⟩ | ⟨o, u', _, e, hle, _⟩
              · rw [← hu1, e]; exact Nat.zero_le _
              · rw [← hu1, e]; omega
            have hwr : IntKind.i64.wrap ((n : Int) - (k : Int)) = (n : Int) - (k : Int) := by rw [IntKind.wrap_i64]; omega
            have hik : (k : Int) < (k7 : Int) := by omega
            have hgk : (0 : Int) ≤ (k : Int) := by omega
            have HX5 := HX
            replace HX := Lib.hid (keeps_spots _ _ _ _ _ _ HX.out B2 B2.size)
            have hg7w : g7 < wr.heap.size := Nat.lt_of_lt_of_le hg75 B2.size
            clear hu1 hu2 hy2 hsub hkl
            go_wp2_with fail
            refine wp_region_results (fun r i => ([.slice (some ⟨g7, o7, none⟩) k7 c7, .int .i64 (k : Int), .pointer (some ⟨g7, o7 + k * 2, none⟩), .pointer (some ⟨g7, o7 + k * 2, none⟩), .int .i64 ((n : Int) - (k : Int)), .pointer (some ⟨g5, 0, none⟩), .int .i64 (n : Int), .int .i64 (k : Int), .int .i64 ((n : Int) - (k : Int)), .bool false, .bool false, .slice A (spo ot).length ca, .slice (some ⟨g7, o7, none⟩) k7 c7, .int .i64 (k : Int), .pointer (some ⟨g7, o7 + k * 2, none⟩), .agg #[.int .i64 ((n : Int) - (k : Int)), .int .i64 y2], (r 0), (r 1), .agg #[.int .i64 m1, .int .i64 m2], .bool true, .bool false, .bool false] : List Value).getD i undef) [16, 17, 19] [0, 0, 0, 0, 0, 0, 0, 0, 0, 0, 0, 0, 0, 0, 0, 0, 0, 1, 0, 2, 3, 3] (fun r q w' => (Below wr.heap.size wr w') ∧ (0 < q → Spots w'.heap.size w' (flat u) [(r 0)]) ∧ (1 < q → Mems w'.heap.size w' (lv (flat u)) [(r 1)])) (by kernel_rfl) (by kernel_rfl) (fun r => ⟨⟨rfl, rfl, rfl, Nat.le_refl _, fun _ _ => rfl⟩, fun h => absurd h (Nat.not_lt_zero _), fun h => absurd h (Nat.not_lt_zero _)⟩) ?_ ?_
            · refine ObsR_of_ends (by kernel_rfl) ?_
              intro r Fr hEA
              refine ⟨?_, ?_, ?_, ?_, ?_, ?_, ?_, ?_, ?_, ?_, ?_, ?_, ?_, ?_, ?_, ?_, ?_, ?_, ?_, ?_, ?_, ?_, trivial⟩
              · exact obR_move _ rfl (want_none rfl) (by kernel_rfl) (eval_out hEA (d := 7) (by kernel_rfl))
              · exact obR_move _ rfl (want_none rfl) (by kernel_rfl) (eval_out hEA (d := 8) (by kernel_rfl))
              · refine obR_val (want_none rfl) (by kernel_rfl) (fun ph w' hp hpm hw => ?_)
                have e65 : Fr.tmps[65]? = some (.slice (some ⟨g7, o7, none⟩) k7 c7) := hEA.dst 0 _ 65 rfl rfl; have e66 : Fr.tmps[66]? = some (.int .i64 (k : Int)) := hEA.dst 1 _ 66 rfl rfl; simp [execOp, e65, e66, hik, hgk, go_sem]
              · refine obR_val (want_none rfl) (by kernel_rfl) (fun ph w' hp hpm hw => ?_)
                have e67 : Fr.tmps[67]? = some (.pointer (some ⟨g7, o7 + k * 2, none⟩)) := hEA.dst 2 _ 67 rfl rfl; simp [execOp, e67, go_sem]
              · refine obR_val (want_none rfl) (by kernel_rfl) (fun ph w' hp hpm hw => ?_)
                have hc0 := (hw.1.cell (p := ⟨g7, o7 + k * 2, none⟩) hg7w).trans y0
                have e68 : Fr.tmps[68]? = some (.pointer (some ⟨g7, o7 + k * 2, none⟩)) := hEA.dst 3 _ 68 rfl rfl; simp [execOp, e68, hc0, go_sem]
              · refine obR_val (want_none rfl) (by kernel_rfl) (fun ph w' hp hpm hw => ?_)
                have e5 : Fr.tmps[5]? = some (.pointer (some ⟨g5, 0, none⟩)) := at_out hEA (d := 5) (by kernel_rfl); simp [execOp, e5, go_sem]
              · refine obR_val (want_none rfl) (by kernel_rfl) (fun ph w' hp hpm hw => ?_)
                have hc0 := (hw.1.cell (p := ⟨g5, 0, none⟩) b5.lt).trans (b5.c 0 _ rfl)
                have e70 : Fr.tmps[70]? = some (.pointer (some ⟨g5, 0, none⟩)) := hEA.dst 5 _ 70 rfl rfl; simp [execOp, e70, hc0, go_sem]
              · exact obR_move _ rfl (want_none rfl) (by kernel_rfl) (eval_out hEA (d := 8) (by kernel_rfl))
              · refine obR_val (want_none rfl) (by kernel_rfl) (fun ph w' hp hpm hw => ?_)
                have e71 : Fr.tmps[71]? = some (.int .i64 (n : Int)) := hEA.dst 6 _ 71 rfl rfl; have e72 : Fr.tmps[72]? = some (.int .i64 (k : Int)) := hEA.dst 7 _ 72 rfl rfl; simp [execOp, e71, e72, hwr, go_sem]
              · refine obR_val (want_none rfl) (by kernel_rfl) (fun ph w' hp hpm hw => ?_)
                have e69 : Fr.tmps[69]? = some (.int .i64 ((n : Int) - (k : Int))) := hEA.dst 4 _ 69 rfl rfl; have e73 : Fr.tmps[73]? = some (.int .i64 ((n : Int) - (k : Int))) := hEA.dst 8 _ 73 rfl rfl; simp [execOp, e69, e73, go_sem]
              · exact obR_move _ rfl (want_none rfl) (by kernel_rfl) (eval_dst hEA (j := 9) rfl rfl)
              · exact obR_move _ rfl (want_is hEA (g := 10) (x := false) (b := false) rfl rfl rfl rfl) (by kernel_rfl) (eval_out hEA (d := 0) (by kernel_rfl))
              · exact obR_move _ rfl (want_is hEA (g := 10) (x := false) (b := false) rfl rfl rfl rfl) (by kernel_rfl) (eval_out hEA (d := 7) (by kernel_rfl))
              · exact obR_move _ rfl (want_is hEA (g := 10) (x := false) (b := false) rfl rfl rfl rfl) (by kernel_rfl) (eval_out hEA (d := 8) (by kernel_rfl))
              · refine obR_val (want_is hEA (g := 10) (x := false) (b := false) rfl rfl rfl rfl) (by kernel_rfl) (fun ph w' hp hpm hw => ?_)
                have e77 : Fr.tmps[77]? = some (.slice (some ⟨g7, o7, none⟩) k7 c7) := hEA.dst 12 _ 77 rfl rfl; have e78 : Fr.tmps[78]? = some (.int .i64 (k : Int)) := hEA.dst 13 _ 78 rfl rfl; simp [execOp, e77, e78, hik, hgk, go_sem]
              · refine obR_val (want_is hEA (g := 10) (x := false) (b := false) rfl rfl rfl rfl) (by kernel_rfl) (fun ph w' hp hpm hw => ?_)
                have hc0 := (hw.1.cell (p := ⟨g7, o7 + k * 2, none⟩) hg7w).trans y0
                have hc1 := (hw.1.cell (p := ⟨g7, o7 + k * 2 + 1, none⟩) hg7w).trans y1
                have e79 : Fr.tmps[79]? = some (.pointer (some ⟨g7, o7 + k * 2, none⟩)) := hEA.dst 14 _ 79 rfl rfl; simp [execOp, e79, hc0, hc1, go_sem]
              · refine obR_call (q := 0) (f := 19) (args := #[.slice A (spo ot).length ca, .agg #[.int .i64 ((n : Int) - (k : Int)), .int .i64 y2]]) (want_is hEA (g := 10) (x := false) (b := false) rfl rfl rfl rfl) (by kernel_rfl) (fun w' => by have e76 : Fr.tmps[76]? = some (.slice A (spo ot).length ca) := hEA.dst 11 _ 76 rfl rfl; have e80 : Fr.tmps[80]? = some (.agg #[.int .i64 ((n : Int) - (k : Int)), .int .i64 y2]) := hEA.dst 15 _ 80 rfl rfl; simp [e76, e80, go_sem]) ?_
                intro w' hw
                refine ((show Calls _ _ _ _ (fun e W' => ∃ v', e = .returned v' ∧ Spots W'.heap.size W' (flat u) [v'] ∧ Below w'.heap.size w' W') from by have := lPart_any _ ot ((n : Int) - (k : Int)) y2 w' (keeps_spots _ _ _ _ _ _ HX.out hw.1 hw.1.size) hok hht; rwa [HPU.out] at this)).mono ?_
                rintro e w2 ⟨v', rfl, hs, hb⟩
                exact ⟨_, rfl, fun r' hr hv => ⟨hv, ⟨hw.1.trans (hb.mono hw.1.size), fun _ => by rw [hv]; exact hs, fun h => absurd h (by decide)⟩⟩⟩
              · refine obR_call (q := 1) (f := 27) (args := #[(r 0)]) (want_is hEA (g := 10) (x := false) (b := false) rfl rfl rfl rfl) (by kernel_rfl) (fun w' => by have e81 : Fr.tmps[81]? = some ((r 0)) := hEA.dst 16 _ 81 rfl rfl; simp [e81, go_sem]) ?_
                intro w' hw
                refine (refLeaves_any (r 0) (flat u) w' (hw.2.1 (by decide)) hul).mono ?_
                rintro e w2 ⟨v', rfl, hs, hb⟩
                exact ⟨_, rfl, fun r' hr hv => ⟨hv, ⟨hw.1.trans (hb.mono hw.1.size), fun _ => by rw [hr 0 (by decide)]; exact keeps_spots _ _ _ _ _ _ (hw.2.1 (by decide)) hb hb.size, fun _ => by rw [hv]; exact hs⟩⟩⟩
              · refine obR_val (want_is hEA (g := 10) (x := false) (b := false) rfl rfl rfl rfl) (by kernel_rfl) (fun ph w' hp hpm hw => ?_)
                have hc0 := (hw.1.cell (p := ⟨w.heap.size, 0, none⟩) b0.lt).trans (b0.c 0 _ rfl)
                have hc1 := (hw.1.cell (p := ⟨w.heap.size, 1, none⟩) b0.lt).trans (b0.c 1 _ rfl)
                have e3 : Fr.tmps[3]? = some (.pointer (some ⟨w.heap.size, 0, none⟩)) := at_out hEA (d := 3) (by kernel_rfl); simp [execOp, e3, hc0, hc1, go_sem]
              · refine obR_call (q := 2) (f := 26) (args := #[(r 1), .agg #[.int .i64 m1, .int .i64 m2]]) (want_is hEA (g := 10) (x := false) (b := false) rfl rfl rfl rfl) (by kernel_rfl) (fun w' => by have e82 : Fr.tmps[82]? = some ((r 1)) := hEA.dst 17 _ 82 rfl rfl; have e83 : Fr.tmps[83]? = some (.agg #[.int .i64 m1, .int .i64 m2]) := hEA.dst 18 _ 83 rfl rfl; simp [e82, e83, go_sem]) ?_
                intro w' hw
                refine ((show Calls _ _ _ _ (fun e W' => e = .returned (.bool true) ∧ Below w'.heap.size w' W') from by have := refHas_any (r 1) (lv (flat u)) m1 m2 w' (hw.2.2 (by decide)); rwa [HMU.out] at this)).mono ?_
                rintro e w2 ⟨rfl, hb⟩
                exact ⟨_, rfl, fun r' hr hv => ⟨rfl, ⟨hw.1.trans (hb.mono hw.1.size), fun _ => by rw [hr 0 (by decide)]; exact keeps_spots _ _ _ _ _ _ (hw.2.1 (by decide)) hb hb.size, fun _ => by rw [hr 1 (by decide)]; exact keeps_mems _ _ _ _ _ _ (hw.2.2 (by decide)) hb hb.size⟩⟩⟩
              · refine obR_val (want_is hEA (g := 10) (x := false) (b := false) rfl rfl rfl rfl) (by kernel_rfl) (fun ph w' hp hpm hw => ?_)
                have e84 : Fr.tmps[84]? = some (.bool true) := hEA.dst 19 _ 84 rfl rfl; simp [execOp, e84, go_sem]
              · refine obR_val (want_none rfl) (by kernel_rfl) (fun ph w' hp hpm hw => ?_)
                have e75 : Fr.tmps[75]? = some (.bool false) := hEA.dst 10 _ 75 rfl rfl; have e85 : Fr.tmps[85]? = some (.bool false) := hEA.dst 20 _ 85 rfl rfl; simp [execOp, e75, e85, go_sem]
            · intro r w' hw
              simp only [laid, Act.put, List.setIfInBounds_toArray, List.set_cons_succ, List.set_cons_zero, List.getD_cons_succ, List.getD_cons_zero, Nat.zero_add, Nat.reduceAdd]
              go_wp2
              go_roundw
              case rel => exact ⟨k + 1, _, rfl, by omega, by go_num, B2.trans (hw.1.mono B2.size)⟩
              case measure => simp [intOf]; omega
          · have hd : decide (k < k7) = false := by simpa using hlt
            replace HX := Lib.hid (keeps_spots _ _ _ _ _ _ HX.out B2 B2.size)
            replace B := B.trans (B2.mono B.size)
            clear B2
            go_wp2_with fail
            refine wp_region_results (fun r i => ([.bool true, .bool true, .slice A (spo ot).length ca, .agg #[.int .i64 (n : Int), .int .i64 iv], (r 1), .agg #[.int .i64 m1, .int .i64 m2], (r 2), .bool true, .bool true, .bool true] : List Value).getD i undef) [0, 4, 6, 7] [0, 1, 1, 1, 1, 1, 2, 3, 4, 4] (fun r q w' => (Below wr.heap.size wr w') ∧ (1 < q → Spots w'.heap.size w' ([(true, m1, m2)]) [(r 1)]) ∧ (2 < q → Spots w'.heap.size w' ([(true, m1, m2)]) [(r 2)])) (by kernel_rfl) (by kernel_rfl) (fun r => ⟨⟨rfl, rfl, rfl, Nat.le_refl _, fun _ _ => rfl⟩, fun h => absurd h (Nat.not_lt_zero _), fun h => absurd h (Nat.not_lt_zero _)⟩) ?_ ?_
            · refine ObsR_of_ends (by kernel_rfl) ?_
              intro r Fr hEA
              refine ⟨?_, ?_, ?_, ?_, ?_, ?_, ?_, ?_, ?_, ?_, trivial⟩
              · refine obR_call (q := 0) (f := 14) (args := #[]) (want_none rfl) (by kernel_rfl) (fun w' => by simp [go_sem]) ?_
                intro w' hw
                refine (awake10_any w').mono ?_
                rintro e w2 ⟨rfl, hb⟩
                exact ⟨_, rfl, fun r' hr hv => ⟨rfl, ⟨hw.1.trans (hb.mono hw.1.size), fun h => absurd h (by decide), fun h => absurd h (by decide)⟩⟩⟩
              · exact obR_move _ rfl (want_none rfl) (by kernel_rfl) (eval_dst hEA (j := 0) rfl rfl)
              · exact obR_move _ rfl (want_is hEA (g := 1) (x := true) (b := true) rfl rfl rfl rfl) (by kernel_rfl) (eval_out hEA (d := 0) (by kernel_rfl))
              · refine obR_val (want_is hEA (g := 1) (x := true) (b := true) rfl rfl rfl rfl) (by kernel_rfl) (fun ph w' hp hpm hw => ?_)
                have hc0 := (hw.1.cell (p := ⟨g5, 0, none⟩) b5.lt).trans (b5.c 0 _ rfl)
                have hc1 := (hw.1.cell (p := ⟨g5, 1, none⟩) b5.lt).trans (b5.c 1 _ rfl)
                have e5 : Fr.tmps[5]? = some (.pointer (some ⟨g5, 0, none⟩)) := at_out hEA (d := 5) (by kernel_rfl); simp [execOp, e5, hc0, hc1, go_sem]
              · refine obR_call (q := 1) (f := 19) (args := #[.slice A (spo ot).length ca, .agg #[.int .i64 (n : Int), .int .i64 iv]]) (want_is hEA (g := 1) (x := true) (b := true) rfl rfl rfl rfl) (by kernel_rfl) (fun w' => by have e89 : Fr.tmps[89]? = some (.slice A (spo ot).length ca) := hEA.dst 2 _ 89 rfl rfl; have e90 : Fr.tmps[90]? = some (.agg #[.int .i64 (n : Int), .int .i64 iv]) := hEA.dst 3 _ 90 rfl rfl; simp [e89, e90, go_sem]) ?_
                intro w' hw
                refine ((show Calls _ _ _ _ (fun e W' => ∃ v', e = .returned v' ∧ Spots W'.heap.size W' [(true, m1, m2)] [v'] ∧ Below w'.heap.size w' W') from by have := lPart_any _ ot (n : Int) iv w' (keeps_spots _ _ _ _ _ _ HX.out hw.1 hw.1.size) hok hht; rwa [HPL.out] at this)).mono ?_
                rintro e w2 ⟨v', rfl, hs, hb⟩
                exact ⟨_, rfl, fun r' hr hv => ⟨hv, ⟨hw.1.trans (hb.mono hw.1.size), fun _ => by rw [hv]; exact hs, fun h => absurd h (by decide)⟩⟩⟩
              · refine obR_val (want_is hEA (g := 1) (x := true) (b := true) rfl rfl rfl rfl) (by kernel_rfl) (fun ph w' hp hpm hw => ?_)
                have hc0 := (hw.1.cell (p := ⟨w.heap.size, 0, none⟩) b0.lt).trans (b0.c 0 _ rfl)
                have hc1 := (hw.1.cell (p := ⟨w.heap.size, 1, none⟩) b0.lt).trans (b0.c 1 _ rfl)
                have e3 : Fr.tmps[3]? = some (.pointer (some ⟨w.heap.size, 0, none⟩)) := at_out hEA (d := 3) (by kernel_rfl); simp [execOp, e3, hc0, hc1, go_sem]
              · refine obR_call (q := 2) (f := 28) (args := #[.agg #[.int .i64 m1, .int .i64 m2]]) (want_is hEA (g := 1) (x := true) (b := true) rfl rfl rfl rfl) (by kernel_rfl) (fun w' => by have e92 : Fr.tmps[92]? = some (.agg #[.int .i64 m1, .int .i64 m2]) := hEA.dst 5 _ 92 rfl rfl; simp [e92, go_sem]) ?_
                intro w' hw
                refine (refLeaf_any m1 m2 w').mono ?_
                rintro e w2 ⟨v', rfl, hs, hb⟩
                exact ⟨_, rfl, fun r' hr hv => ⟨hv, ⟨hw.1.trans (hb.mono hw.1.size), fun _ => by rw [hr 1 (by decide)]; exact keeps_spots _ _ _ _ _ _ (hw.2.1 (by decide)) hb hb.size, fun _ => by rw [hv]; exact hs⟩⟩⟩
              · refine obR_call (q := 3) (f := 18) (args := #[(r 1), (r 2)]) (want_is hEA (g := 1) (x := true) (b := true) rfl rfl rfl rfl) (by kernel_rfl) (fun w' => by have e91 : Fr.tmps[91]? = some ((r 1)) := hEA.dst 4 _ 91 rfl rfl; have e93 : Fr.tmps[93]? = some ((r 2)) := hEA.dst 6 _ 93 rfl rfl; simp [e91, e93, go_sem]) ?_
                intro w' hw
                refine ((show Calls _ _ _ _ (fun e W' => e = .returned (.bool true) ∧ Below w'.heap.size w' W') from by have := sameS_any (r 1) (r 2) [(true, m1, m2)] [(true, m1, m2)] w' (hw.2.1 (by decide)) (hw.2.2 (by decide)) (by simp); rwa [show decide ([(true, m1, m2)] = [(true, m1, m2)]) = true from decide_eq_true rfl] at this)).mono ?_
                rintro e w2 ⟨rfl, hb⟩
                exact ⟨_, rfl, fun r' hr hv => ⟨rfl, ⟨hw.1.trans (hb.mono hw.1.size), fun _ => by rw [hr 1 (by decide)]; exact keeps_spots _ _ _ _ _ _ (hw.2.1 (by decide)) hb hb.size, fun _ => by rw [hr 2 (by decide)]; exact keeps_spots _ _ _ _ _ _ (hw.2.2 (by decide)) hb hb.size⟩⟩⟩
              · refine obR_val (want_none rfl) (by kernel_rfl) (fun ph w' hp hpm hw => ?_)
                have e88 : Fr.tmps[88]? = some (.bool true) := hEA.dst 1 _ 88 rfl rfl; have e94 : Fr.tmps[94]? = some (.bool true) := hEA.dst 7 _ 94 rfl rfl; simp [execOp, e88, e94, go_sem]
              · refine obR_val (want_none rfl) (by kernel_rfl) (fun ph w' hp hpm hw => ?_)
                have e95 : Fr.tmps[95]? = some (.bool true) := hEA.dst 8 _ 95 rfl rfl; simp [execOp, e95, go_sem]
            · intro r w' hw
              simp only [laid, Act.put, List.setIfInBounds_toArray, List.set_cons_succ, List.set_cons_zero, List.getD_cons_succ, List.getD_cons_zero, Nat.zero_add, Nat.reduceAdd]
              go_wp2
              go_ret
              exact ⟨rfl, B.trans (hw.1.mono B.size)⟩

end Go.Proofs.Ytoddcpkogapolaa
