/- lodgelaw09.TreeCounts answers true, whatever slice of spots and whatever text come in, and leaves memory below as it was. No condition. -/
import Derived.Test.YtgnebmandifhiaaAwake9
namespace Go.Proofs.Ytgnebmandifhiaa
open Go Go.RowKit
set_option linter.unusedVariables false

theorem last_leaf (t : Tr) : ∃ (p q : Nat) (a b : Int), (flat t).length = p + 1 ∧ (lv (flat t)).length = q + 1 ∧ (flat t)[p]? = some (true, a, b) ∧ (lv (flat t))[q]? = some (a, b) ∧ p + 2 = 2 * (q + 1) ∧ ht t < ((q + 1 : Nat) : Int) := by
  obtain ⟨ys, a, b, e⟩ := flat_last t
  have h1 := flat_counts t
  have h2 := ht_lt t
  have el : lv (flat t) = lv ys ++ [(a, b)] := by rw [e, lv_append]; rfl
  have l1 : (flat t).length = ys.length + 1 := by rw [e]; simp
  have l2 : (lv (flat t)).length = (lv ys).length + 1 := by rw [el]; simp
  refine ⟨ys.length, (lv ys).length, a, b, l1, l2, ?_, ?_, ?_, ?_⟩
  · rw [e]; simp
  · rw [el]; simp
  · omega
  · rw [← l2]; exact h2
set_option maxRecDepth 100000 in
set_option maxHeartbeats 8000000 in
theorem treeCounts_walk (A : Option Addr) (la ca : Nat) (s : ByteArray) (w : World) (h : ∃ xs, Spots w.heap.size w xs [.slice A la ca]) (hs : s.size ≤ maxLen) :
    Calls Try.prog 5 #[.slice A la ca, .string s] w fun e w' => e = .returned (.bool true) ∧ Below w.heap.size w w' := by
  obtain ⟨xs, hx⟩ := h
  have HX := Lib.hid hx
  obtain ⟨_, _, e, hlc, hcm, hp⟩ := spots_at hx
  simp only [Value.slice.injEq] at e
  obtain ⟨rfl, hla, rfl⟩ := e
  have HP := Lib.hid hp
  have hc1 : ca ≤ 9223372036854775807 := Nat.le_trans hcm (by decide)
  subst hla
  clear hx hcm hp
  obtain ⟨more, rfl⟩ : ∃ l, s = tx l := ⟨_, tx_of s⟩
  rw [tx_size] at hs
  have hsz : (tx more).size = more.length := tx_size more
  by_cases h1 : 128 < xs.length
  · have hd : decide (128 < xs.length) = true := decide_eq_true h1
    have hd2 : decide ((128 : Int) < (xs.length : Int)) = true := decide_eq_true (by omega)
    clear hsz
    go_enter Try.func5, Try.ntmps5
    go_wp2_with fail
    refine (awake9_any w).mono ?_
    rintro e W9 ⟨rfl, B9⟩
    go_wp2
    go_ret
    exact ⟨rfl, B9⟩

  · have hd : decide (128 < xs.length) = false := decide_eq_false h1
    have hd2 : decide ((128 : Int) < (xs.length : Int)) = false := decide_eq_false (by omega)
    by_cases h2 : 50 < more.length
    · have hd3 : decide (50 < more.length) = true := decide_eq_true h2
      have hd4 : decide ((50 : Int) < (more.length : Int)) = true := decide_eq_true (by omega)
      go_enter Try.func5, Try.ntmps5
      go_wp2_with fail
      refine (awake9_any w).mono ?_
      rintro e W9 ⟨rfl, B9⟩
      go_wp2
      go_ret
      exact ⟨rfl, B9⟩

    · have hd3 : decide (50 < more.length) = false := decide_eq_false h2
      have hd4 : decide ((50 : Int) < (more.length : Int)) = false := decide_eq_false (by omega)
      have hn : xs.length ≤ 1000000 := by omega
      go_enter Try.func5, Try.ntmps5
      go_wp2_with fail
      refine (right_any _ xs w HX.out hn).mono ?_
      rintro e W1 ⟨rfl, B⟩
      cases hox : okT xs
      · clear hox
        go_wp2_with fail
        refine (awake9_any W1).mono ?_
        rintro e W9 ⟨rfl, B9⟩
        go_wp2
        go_ret
        exact ⟨rfl, B.trans (B9.mono B.size)⟩

      · by_cases h0 : xs.length = 0
        · have hz : ((xs.length : Int) == 0) = true := by rw [h0]; rfl
          clear hox h0
          go_wp2_with fail
          refine (awake9_any W1).mono ?_
          rintro e W9 ⟨rfl, B9⟩
          go_wp2
          go_ret
          exact ⟨rfl, B.trans (B9.mono B.size)⟩

        · have hz : ((xs.length : Int) == 0) = false := beq_eq_false_iff_ne.2 (by omega)
          obtain ⟨t, rfl⟩ := okT_flat hox (fun e => h0 (by rw [e]; rfl))
          obtain ⟨p, q, a, b, l1, l2, x, y, hpq, hht⟩ := last_leaf t
          have HOX := Lib.hid hox
          have HX2 := Lib.hid x
          have HY2 := Lib.hid y
          have HT := Lib.hid (fun v w hs => height_flat t v w hs hn)
          have HB := Lib.hid (tree_back hox more)
          have HL := Lib.hid (layTr_le (flat t))
          generalize ht t = z at *
          generalize flat t = xs at *
          obtain ⟨g0, o0, rfl, hg, c0, c1, c2⟩ := HP.out p (by omega)
          have ex : xs[p]'(by omega) = (true, a, b) := by
            have := HX2.out
            rw [List.getElem?_eq_getElem (by omega)] at this
            simpa using this
          rw [ex] at c0 c1 c2
          replace HX := Lib.hid (keeps_spots _ _ _ _ _ _ HX.out B B.size)
          replace c0 := (B.cell (p := ⟨g0, o0 + p * 3, none⟩) hg).trans c0
          replace c1 := (B.cell (p := ⟨g0, o0 + p * 3 + 1, none⟩) hg).trans c1
          replace c2 := (B.cell (p := ⟨g0, o0 + p * 3 + 2, none⟩) hg).trans c2
          have hg1 : g0 < W1.heap.size := Nat.lt_of_lt_of_le hg B.size
          have C0 := Lib.hid c0
          have C1 := Lib.hid c1
          have C2 := Lib.hid c2
          have L1 := Lib.hid l1
          have L2 := Lib.hid l2
          have PQ := Lib.hid hpq
          have HHT := Lib.hid hht
          clear hox x y HP ex c0 c1 c2 l1 l2 hpq hht hg HX2 hsz
          obtain ⟨n, hnx⟩ : ∃ n, xs.length = n := ⟨_, rfl⟩
          have HNX := Lib.hid hnx
          rw [hnx] at hd hd2 hz h0 h1 hlc
          rw [hnx]
          clear hnx
          go_wp2_with fail
          refine (leaves_any _ xs W1 (by rw [← HNX.out]; exact HX.out) hn).mono ?_
          rintro e W2 ⟨vm, rfl, hm, hb⟩
          obtain ⟨A5, c5, rfl, hlc5, hcm5, hp5⟩ := mems_at hm
          obtain ⟨g5, o5, rfl, hg5, y0, y1⟩ := hp5 q (by have := L2.out; omega)
          have ey : (lv xs)[q]'(by have := L2.out; omega) = (a, b) := by
            have := HY2.out
            rw [List.getElem?_eq_getElem (by have := L2.out; omega)] at this
            simpa using this
          rw [ey] at y0 y1
          have Y0 := Lib.hid y0
          have Y1 := Lib.hid y1
          have hc5 : c5 ≤ 9223372036854775807 := Nat.le_trans hcm5 (by decide)
          replace HX := Lib.hid (keeps_spots _ _ _ _ _ _ HX.out hb hb.size)
          replace C0 := Lib.hid ((hb.cell (p := ⟨g0, o0 + p * 3, none⟩) hg1).trans C0.out)
          replace C1 := Lib.hid ((hb.cell (p := ⟨g0, o0 + p * 3 + 1, none⟩) hg1).trans C1.out)
          replace C2 := Lib.hid ((hb.cell (p := ⟨g0, o0 + p * 3 + 2, none⟩) hg1).trans C2.out)
          have hg2 : g0 < W2.heap.size := Nat.lt_of_lt_of_le hg1 hb.size
          replace B := B.trans (hb.mono B.size)
          clear hb hm hp5 ey y0 y1 hcm5 HY2
          obtain ⟨m, hmx⟩ : ∃ m, (lv xs).length = m := ⟨_, rfl⟩
          have HMX := Lib.hid hmx
          rw [hmx] at hlc5
          rw [hmx]
          clear hmx
          go_wp2_with fail
          refine (printT_any _ xs W2 (by rw [← HNX.out]; exact HX.out) hn).mono ?_
          rintro e W3 ⟨rfl, hb⟩
          replace HX := Lib.hid (keeps_spots _ _ _ _ _ _ HX.out hb hb.size)
          replace C0 := Lib.hid ((hb.cell (p := ⟨g0, o0 + p * 3, none⟩) hg2).trans C0.out)
          replace C1 := Lib.hid ((hb.cell (p := ⟨g0, o0 + p * 3 + 1, none⟩) hg2).trans C1.out)
          replace C2 := Lib.hid ((hb.cell (p := ⟨g0, o0 + p * 3 + 2, none⟩) hg2).trans C2.out)
          replace Y0 := Lib.hid ((hb.cell (p := ⟨g5, o5 + q * 2, none⟩) hg5).trans Y0.out)
          replace Y1 := Lib.hid ((hb.cell (p := ⟨g5, o5 + q * 2 + 1, none⟩) hg5).trans Y1.out)
          have hg3 : g0 < W3.heap.size := Nat.lt_of_lt_of_le hg2 hb.size
          have hg53 : g5 < W3.heap.size := Nat.lt_of_lt_of_le hg5 hb.size
          replace B := B.trans (hb.mono B.size)
          have hr := tx_room (a := layTr xs) (b := more) (by have := HL.out; omega)
          clear hb
          go_wp2_with fail
          rw [tx_app]
          have hA0 := leftAt_new W3 (tx (layTr xs ++ more)) _ 37 rfl
          have hb := below_new W3 (.cells #[.string (tx (layTr xs ++ more)), .bool false] 37)
          obtain ⟨gb, hgb⟩ : ∃ gb, W3.heap.size = gb := ⟨_, rfl⟩
          have HGB := Lib.hid hgb
          rw [hgb] at hA0
          try rw [hgb]
          clear hgb hr
          generalize W3.alloc (.cells #[.string (tx (layTr xs ++ more)), .bool false] 37) = W4 at *
          have hA : At W4 gb (layTr xs ++ more).length (some (layTr xs ++ more)) := ⟨hA0, Nat.le_refl _⟩
          clear hA0
          refine (readT_any gb _ _ W4 hA (by have := HL.out; simp only [List.length_append]; omega)).mono ?_
          rintro e W0 ⟨v9, rfl, h9, hA2, T⟩
          rw [HB.out.1] at hA2
          rw [HB.out.2] at h9
          have hbt : Below W3.heap.size W3 W0 := hb.trans (T.below (Nat.le_of_eq HGB.out) hb.size)
          replace HX := Lib.hid (keeps_spots _ _ _ _ _ _ HX.out hbt hbt.size)
          have H9 := Lib.hid h9
          have x0 := (hbt.cell (p := ⟨g0, o0 + p * 3, none⟩) hg3).trans C0.out
          have x1 := (hbt.cell (p := ⟨g0, o0 + p * 3 + 1, none⟩) hg3).trans C1.out
          have x2 := (hbt.cell (p := ⟨g0, o0 + p * 3 + 2, none⟩) hg3).trans C2.out
          have y0 := (hbt.cell (p := ⟨g5, o5 + q * 2, none⟩) hg53).trans Y0.out
          have y1 := (hbt.cell (p := ⟨g5, o5 + q * 2 + 1, none⟩) hg53).trans Y1.out
          have z0 := hA2.1.s
          have hgb := hA2.lt
          have hg0 : g0 < W0.heap.size := Nat.lt_of_lt_of_le hg3 hbt.size
          have hg5 : g5 < W0.heap.size := Nat.lt_of_lt_of_le hg53 hbt.size
          replace B := B.trans (hbt.mono B.size)
          rw [HNX.out] at HX
          have e1 := L1.out
          have e2 := L2.out
          have e3 := PQ.out
          have e4 := HHT.out
          rw [HNX.out] at e1
          rw [HMX.out] at e2
          have hw2 : IntKind.i64.wrap (2 * (m : Int)) = 2 * (m : Int) := by rw [IntKind.wrap_i64]; omega
          have hw3 : IntKind.i64.wrap (2 * (m : Int) - 1) = 2 * (m : Int) - 1 := by rw [IntKind.wrap_i64]; omega
          have hnm : (n : Int) = 2 * (m : Int) - 1 := by omega
          have hnp : IntKind.i64.wrap ((n : Int) - 1) = (p : Int) := by rw [IntKind.wrap_i64]; omega
          have hmq : IntKind.i64.wrap ((m : Int) - 1) = (q : Int) := by rw [IntKind.wrap_i64]; omega
          have hzm : z < (m : Int) := by omega
          have hip : (p : Int) < (n : Int) := by omega
          have hgp : (0 : Int) ≤ (p : Int) := by omega
          have hiq : (q : Int) < (m : Int) := by omega
          have hgq : (0 : Int) ≤ (q : Int) := by omega
          clear e1 e2 e3 e4 hA hA2 T h9 hb C0 C1 C2 Y0 Y1 hbt
          go_wp2_with fail
          refine wp_region_plan (fun i => ([.bool true, .bool true, .slice (some ⟨g0, o0, none⟩) n ca, .int .i64 (n : Int), .slice (some ⟨g5, o5, none⟩) m c5, .int .i64 (m : Int), .int .i64 (2 * (m : Int)), .int .i64 (2 * (m : Int) - 1), .bool true, .bool true, .bool true, v9, .slice (some ⟨g0, o0, none⟩) n ca, .bool true, .bool true, .bool true, .pointer (some ⟨gb, 0, none⟩), .pointer (some ⟨gb, 0, none⟩), .pointer (some ⟨gb, 0, none⟩), .string (tx more), .string (tx more), .bool true, .bool true, .bool true, .slice (some ⟨g0, o0, none⟩) n ca, .slice (some ⟨g0, o0, none⟩) n ca, .int .i64 (n : Int), .int .i64 (p : Int), .pointer (some ⟨g0, o0 + p * 3, none⟩), .pointer (some ⟨g0, o0 + p * 3, none⟩), .bool true, .bool true, .bool true, .slice (some ⟨g0, o0, none⟩) n ca, .slice (some ⟨g0, o0, none⟩) n ca, .int .i64 (n : Int), .int .i64 (p : Int), .pointer (some ⟨g0, o0 + p * 3, none⟩), .pointer (some ⟨g0, o0 + p * 3 + 1, none⟩), .agg #[.int .i64 a, .int .i64 b], .slice (some ⟨g5, o5, none⟩) m c5, .slice (some ⟨g5, o5, none⟩) m c5, .int .i64 (m : Int), .int .i64 (q : Int), .pointer (some ⟨g5, o5 + q * 2, none⟩), .agg #[.int .i64 a, .int .i64 b], .bool true, .bool true, .bool true, .slice (some ⟨g0, o0, none⟩) n ca, .int .i64 z, .slice (some ⟨g5, o5, none⟩) m c5, .int .i64 (m : Int), .bool true, .bool true, .bool true] : List Value).getD i undef) [0, 13, 50] [0, 1, 1, 1, 1, 1, 1, 1, 1, 1, 1, 1, 1, 1, 2, 2, 2, 2, 2, 2, 2, 2, 2, 2, 2, 2, 2, 2, 2, 2, 2, 2, 2, 2, 2, 2, 2, 2, 2, 2, 2, 2, 2, 2, 2, 2, 2, 2, 2, 2, 2, 2, 2, 3, 3, 3] (fun _ w' => Below W0.heap.size W0 w') (by kernel_rfl) (by kernel_rfl) (⟨rfl, rfl, rfl, Nat.le_refl _, fun _ _ => rfl⟩) ?_ ?_
          · refine Obs_of_ends (by kernel_rfl) ?_
            intro Fr hEA
            refine ⟨?_, ?_, ?_, ?_, ?_, ?_, ?_, ?_, ?_, ?_, ?_, ?_, ?_, ?_, ?_, ?_, ?_, ?_, ?_, ?_, ?_, ?_, ?_, ?_, ?_, ?_, ?_, ?_, ?_, ?_, ?_, ?_, ?_, ?_, ?_, ?_, ?_, ?_, ?_, ?_, ?_, ?_, ?_, ?_, ?_, ?_, ?_, ?_, ?_, ?_, ?_, ?_, ?_, ?_, ?_, ?_, trivial⟩
            · refine ob_call (q := 0) (f := 8) (args := #[]) (want_none rfl) (by kernel_rfl) (fun w' => by simp [go_sem]) ?_
              intro w' hw
              refine (Calls.mono (R := fun E W' => E = .returned (.bool true) ∧ Below w'.heap.size w' W') (awake9_any w') ?_)
              rintro e w2 ⟨rfl, hb⟩
              exact ⟨rfl, hw.trans (hb.mono hw.size)⟩
            · exact ob_move _ rfl (want_none rfl) (by kernel_rfl) (eval_dst hEA (j := 0) rfl rfl)
            · exact ob_move _ rfl (want_is hEA (g := 1) (x := true) (b := true) rfl rfl rfl rfl) (by kernel_rfl) (eval_out hEA (d := 0) (by kernel_rfl))
            · refine ob_val (want_is hEA (g := 1) (x := true) (b := true) rfl rfl rfl rfl) (by kernel_rfl) (fun ph w' hp hpm hw => ?_)
              have e39 : Fr.tmps[39]? = some (.slice (some ⟨g0, o0, none⟩) n ca) := hEA.dst 2 _ 39 rfl rfl; simp [e39, go_sem]
            · exact ob_move _ rfl (want_is hEA (g := 1) (x := true) (b := true) rfl rfl rfl rfl) (by kernel_rfl) (eval_out hEA (d := 5) (by kernel_rfl))
            · refine ob_val (want_is hEA (g := 1) (x := true) (b := true) rfl rfl rfl rfl) (by kernel_rfl) (fun ph w' hp hpm hw => ?_)
              have e41 : Fr.tmps[41]? = some (.slice (some ⟨g5, o5, none⟩) m c5) := hEA.dst 4 _ 41 rfl rfl; simp [e41, go_sem]
            · refine ob_val (want_is hEA (g := 1) (x := true) (b := true) rfl rfl rfl rfl) (by kernel_rfl) (fun ph w' hp hpm hw => ?_)
              have e42 : Fr.tmps[42]? = some (.int .i64 (m : Int)) := hEA.dst 5 _ 42 rfl rfl; simp [execOp, e42, hw2, go_sem]
            · refine ob_val (want_is hEA (g := 1) (x := true) (b := true) rfl rfl rfl rfl) (by kernel_rfl) (fun ph w' hp hpm hw => ?_)
              have e43 : Fr.tmps[43]? = some (.int .i64 (2 * (m : Int))) := hEA.dst 6 _ 43 rfl rfl; simp [execOp, e43, hw3, go_sem]
            · refine ob_val (want_is hEA (g := 1) (x := true) (b := true) rfl rfl rfl rfl) (by kernel_rfl) (fun ph w' hp hpm hw => ?_)
              have e40 : Fr.tmps[40]? = some (.int .i64 (n : Int)) := hEA.dst 3 _ 40 rfl rfl; have e44 : Fr.tmps[44]? = some (.int .i64 (2 * (m : Int) - 1)) := hEA.dst 7 _ 44 rfl rfl; simp [execOp, e40, e44, hnm, go_sem]
            · refine ob_val (want_none rfl) (by kernel_rfl) (fun ph w' hp hpm hw => ?_)
              have e38 : Fr.tmps[38]? = some (.bool true) := hEA.dst 1 _ 38 rfl rfl; have e45 : Fr.tmps[45]? = some (.bool true) := hEA.dst 8 _ 45 rfl rfl; simp [execOp, e38, e45, go_sem]
            · exact ob_move _ rfl (want_none rfl) (by kernel_rfl) (eval_dst hEA (j := 9) rfl rfl)
            · exact ob_move _ rfl (want_is hEA (g := 10) (x := true) (b := true) rfl rfl rfl rfl) (by kernel_rfl) (eval_out hEA (d := 7) (by kernel_rfl))
            · exact ob_move _ rfl (want_is hEA (g := 10) (x := true) (b := true) rfl rfl rfl rfl) (by kernel_rfl) (eval_out hEA (d := 0) (by kernel_rfl))
            · refine ob_call (q := 1) (f := 18) (args := #[v9, .slice (some ⟨g0, o0, none⟩) n ca]) (want_is hEA (g := 10) (x := true) (b := true) rfl rfl rfl rfl) (by kernel_rfl) (fun w' => by have e48 : Fr.tmps[48]? = some (v9) := hEA.dst 11 _ 48 rfl rfl; have e49 : Fr.tmps[49]? = some (.slice (some ⟨g0, o0, none⟩) n ca) := hEA.dst 12 _ 49 rfl rfl; simp [e48, e49, go_sem]) ?_
              intro w' hw
              refine (Calls.mono (R := fun E W' => E = .returned (.bool true) ∧ Below w'.heap.size w' W') (by have := sameS_any _ _ xs xs w' (keeps_spots _ _ _ _ _ _ H9.out hw hw.size) (keeps_spots _ _ _ _ _ _ HX.out hw hw.size) hn; rwa [show decide (xs = xs) = true from decide_eq_true rfl] at this) ?_)
              rintro e w2 ⟨rfl, hb⟩
              exact ⟨rfl, hw.trans (hb.mono hw.size)⟩
            · refine ob_val (want_none rfl) (by kernel_rfl) (fun ph w' hp hpm hw => ?_)
              have e47 : Fr.tmps[47]? = some (.bool true) := hEA.dst 10 _ 47 rfl rfl; have e50 : Fr.tmps[50]? = some (.bool true) := hEA.dst 13 _ 50 rfl rfl; simp [execOp, e47, e50, go_sem]
            · exact ob_move _ rfl (want_none rfl) (by kernel_rfl) (eval_dst hEA (j := 14) rfl rfl)
            · exact ob_move _ rfl (want_is hEA (g := 15) (x := true) (b := true) rfl rfl rfl rfl) (by kernel_rfl) (eval_out hEA (d := 6) (by kernel_rfl))
            · refine ob_val (want_is hEA (g := 15) (x := true) (b := true) rfl rfl rfl rfl) (by kernel_rfl) (fun ph w' hp hpm hw => ?_)
              have e53 : Fr.tmps[53]? = some (.pointer (some ⟨gb, 0, none⟩)) := hEA.dst 16 _ 53 rfl rfl; simp [execOp, e53, go_sem]
            · refine ob_val (want_is hEA (g := 15) (x := true) (b := true) rfl rfl rfl rfl) (by kernel_rfl) (fun ph w' hp hpm hw => ?_)
              have e54 : Fr.tmps[54]? = some (.pointer (some ⟨gb, 0, none⟩)) := hEA.dst 17 _ 54 rfl rfl; simp [execOp, e54, go_sem]
            · refine ob_val (want_is hEA (g := 15) (x := true) (b := true) rfl rfl rfl rfl) (by kernel_rfl) (fun ph w' hp hpm hw => ?_)
              have hc0 := (hw.cell (p := ⟨gb, 0, none⟩) hgb).trans z0
              have e55 : Fr.tmps[55]? = some (.pointer (some ⟨gb, 0, none⟩)) := hEA.dst 18 _ 55 rfl rfl; simp [execOp, e55, hc0, go_sem]
            · exact ob_move _ rfl (want_is hEA (g := 15) (x := true) (b := true) rfl rfl rfl rfl) (by kernel_rfl) (eval_out hEA (d := 1) (by kernel_rfl))
            · refine ob_val (want_is hEA (g := 15) (x := true) (b := true) rfl rfl rfl rfl) (by kernel_rfl) (fun ph w' hp hpm hw => ?_)
              have e56 : Fr.tmps[56]? = some (.string (tx more)) := hEA.dst 19 _ 56 rfl rfl; have e57 : Fr.tmps[57]? = some (.string (tx more)) := hEA.dst 20 _ 57 rfl rfl; simp [execOp, e56, e57, go_sem]
            · refine ob_val (want_none rfl) (by kernel_rfl) (fun ph w' hp hpm hw => ?_)
              have e52 : Fr.tmps[52]? = some (.bool true) := hEA.dst 15 _ 52 rfl rfl; have e58 : Fr.tmps[58]? = some (.bool true) := hEA.dst 21 _ 58 rfl rfl; simp [execOp, e52, e58, go_sem]
            · exact ob_move _ rfl (want_none rfl) (by kernel_rfl) (eval_dst hEA (j := 22) rfl rfl)
            · exact ob_move _ rfl (want_is hEA (g := 23) (x := true) (b := true) rfl rfl rfl rfl) (by kernel_rfl) (eval_out hEA (d := 0) (by kernel_rfl))
            · exact ob_move _ rfl (want_is hEA (g := 23) (x := true) (b := true) rfl rfl rfl rfl) (by kernel_rfl) (eval_out hEA (d := 0) (by kernel_rfl))
            · refine ob_val (want_is hEA (g := 23) (x := true) (b := true) rfl rfl rfl rfl) (by kernel_rfl) (fun ph w' hp hpm hw => ?_)
              have e62 : Fr.tmps[62]? = some (.slice (some ⟨g0, o0, none⟩) n ca) := hEA.dst 25 _ 62 rfl rfl; simp [e62, go_sem]
            · refine ob_val (want_is hEA (g := 23) (x := true) (b := true) rfl rfl rfl rfl) (by kernel_rfl) (fun ph w' hp hpm hw => ?_)
              have e63 : Fr.tmps[63]? = some (.int .i64 (n : Int)) := hEA.dst 26 _ 63 rfl rfl; simp [execOp, e63, hnp, go_sem]
            · refine ob_val (want_is hEA (g := 23) (x := true) (b := true) rfl rfl rfl rfl) (by kernel_rfl) (fun ph w' hp hpm hw => ?_)
              have e61 : Fr.tmps[61]? = some (.slice (some ⟨g0, o0, none⟩) n ca) := hEA.dst 24 _ 61 rfl rfl; have e64 : Fr.tmps[64]? = some (.int .i64 (p : Int)) := hEA.dst 27 _ 64 rfl rfl; simp [execOp, e61, e64, hip, hgp, go_sem]
            · refine ob_val (want_is hEA (g := 23) (x := true) (b := true) rfl rfl rfl rfl) (by kernel_rfl) (fun ph w' hp hpm hw => ?_)
              have e65 : Fr.tmps[65]? = some (.pointer (some ⟨g0, o0 + p * 3, none⟩)) := hEA.dst 28 _ 65 rfl rfl; simp [execOp, e65, go_sem]
            · refine ob_val (want_is hEA (g := 23) (x := true) (b := true) rfl rfl rfl rfl) (by kernel_rfl) (fun ph w' hp hpm hw => ?_)
              have hc0 := (hw.cell (p := ⟨g0, o0 + p * 3, none⟩) hg0).trans x0
              have e66 : Fr.tmps[66]? = some (.pointer (some ⟨g0, o0 + p * 3, none⟩)) := hEA.dst 29 _ 66 rfl rfl; simp [execOp, e66, hc0, go_sem]
            · refine ob_val (want_none rfl) (by kernel_rfl) (fun ph w' hp hpm hw => ?_)
              have e60 : Fr.tmps[60]? = some (.bool true) := hEA.dst 23 _ 60 rfl rfl; have e67 : Fr.tmps[67]? = some (.bool true) := hEA.dst 30 _ 67 rfl rfl; simp [execOp, e60, e67, go_sem]
            · exact ob_move _ rfl (want_none rfl) (by kernel_rfl) (eval_dst hEA (j := 31) rfl rfl)
            · exact ob_move _ rfl (want_is hEA (g := 32) (x := true) (b := true) rfl rfl rfl rfl) (by kernel_rfl) (eval_out hEA (d := 0) (by kernel_rfl))
            · exact ob_move _ rfl (want_is hEA (g := 32) (x := true) (b := true) rfl rfl rfl rfl) (by kernel_rfl) (eval_out hEA (d := 0) (by kernel_rfl))
            · refine ob_val (want_is hEA (g := 32) (x := true) (b := true) rfl rfl rfl rfl) (by kernel_rfl) (fun ph w' hp hpm hw => ?_)
              have e71 : Fr.tmps[71]? = some (.slice (some ⟨g0, o0, none⟩) n ca) := hEA.dst 34 _ 71 rfl rfl; simp [e71, go_sem]
            · refine ob_val (want_is hEA (g := 32) (x := true) (b := true) rfl rfl rfl rfl) (by kernel_rfl) (fun ph w' hp hpm hw => ?_)
              have e72 : Fr.tmps[72]? = some (.int .i64 (n : Int)) := hEA.dst 35 _ 72 rfl rfl; simp [execOp, e72, hnp, go_sem]
            · refine ob_val (want_is hEA (g := 32) (x := true) (b := true) rfl rfl rfl rfl) (by kernel_rfl) (fun ph w' hp hpm hw => ?_)
              have e70 : Fr.tmps[70]? = some (.slice (some ⟨g0, o0, none⟩) n ca) := hEA.dst 33 _ 70 rfl rfl; have e73 : Fr.tmps[73]? = some (.int .i64 (p : Int)) := hEA.dst 36 _ 73 rfl rfl; simp [execOp, e70, e73, hip, hgp, go_sem]
            · refine ob_val (want_is hEA (g := 32) (x := true) (b := true) rfl rfl rfl rfl) (by kernel_rfl) (fun ph w' hp hpm hw => ?_)
              have e74 : Fr.tmps[74]? = some (.pointer (some ⟨g0, o0 + p * 3, none⟩)) := hEA.dst 37 _ 74 rfl rfl; simp [execOp, e74, go_sem]
            · refine ob_val (want_is hEA (g := 32) (x := true) (b := true) rfl rfl rfl rfl) (by kernel_rfl) (fun ph w' hp hpm hw => ?_)
              have hc0 := (hw.cell (p := ⟨g0, o0 + p * 3 + 1, none⟩) hg0).trans x1
              have hc1 := (hw.cell (p := ⟨g0, o0 + p * 3 + 2, none⟩) hg0).trans x2
              have e75 : Fr.tmps[75]? = some (.pointer (some ⟨g0, o0 + p * 3 + 1, none⟩)) := hEA.dst 38 _ 75 rfl rfl; simp [execOp, e75, hc0, hc1, go_sem]
            · exact ob_move _ rfl (want_is hEA (g := 32) (x := true) (b := true) rfl rfl rfl rfl) (by kernel_rfl) (eval_out hEA (d := 5) (by kernel_rfl))
            · exact ob_move _ rfl (want_is hEA (g := 32) (x := true) (b := true) rfl rfl rfl rfl) (by kernel_rfl) (eval_out hEA (d := 5) (by kernel_rfl))
            · refine ob_val (want_is hEA (g := 32) (x := true) (b := true) rfl rfl rfl rfl) (by kernel_rfl) (fun ph w' hp hpm hw => ?_)
              have e78 : Fr.tmps[78]? = some (.slice (some ⟨g5, o5, none⟩) m c5) := hEA.dst 41 _ 78 rfl rfl; simp [e78, go_sem]
            · refine ob_val (want_is hEA (g := 32) (x := true) (b := true) rfl rfl rfl rfl) (by kernel_rfl) (fun ph w' hp hpm hw => ?_)
              have e79 : Fr.tmps[79]? = some (.int .i64 (m : Int)) := hEA.dst 42 _ 79 rfl rfl; simp [execOp, e79, hmq, go_sem]
            · refine ob_val (want_is hEA (g := 32) (x := true) (b := true) rfl rfl rfl rfl) (by kernel_rfl) (fun ph w' hp hpm hw => ?_)
              have e77 : Fr.tmps[77]? = some (.slice (some ⟨g5, o5, none⟩) m c5) := hEA.dst 40 _ 77 rfl rfl; have e80 : Fr.tmps[80]? = some (.int .i64 (q : Int)) := hEA.dst 43 _ 80 rfl rfl; simp [execOp, e77, e80, hiq, hgq, go_sem]
            · refine ob_val (want_is hEA (g := 32) (x := true) (b := true) rfl rfl rfl rfl) (by kernel_rfl) (fun ph w' hp hpm hw => ?_)
              have hc0 := (hw.cell (p := ⟨g5, o5 + q * 2, none⟩) hg5).trans y0
              have hc1 := (hw.cell (p := ⟨g5, o5 + q * 2 + 1, none⟩) hg5).trans y1
              have e81 : Fr.tmps[81]? = some (.pointer (some ⟨g5, o5 + q * 2, none⟩)) := hEA.dst 44 _ 81 rfl rfl; simp [execOp, e81, hc0, hc1, go_sem]
            · refine ob_val (want_is hEA (g := 32) (x := true) (b := true) rfl rfl rfl rfl) (by kernel_rfl) (fun ph w' hp hpm hw => ?_)
              have e76 : Fr.tmps[76]? = some (.agg #[.int .i64 a, .int .i64 b]) := hEA.dst 39 _ 76 rfl rfl; have e82 : Fr.tmps[82]? = some (.agg #[.int .i64 a, .int .i64 b]) := hEA.dst 45 _ 82 rfl rfl; simp [execOp, e76, e82, go_sem]
            · refine ob_val (want_none rfl) (by kernel_rfl) (fun ph w' hp hpm hw => ?_)
              have e69 : Fr.tmps[69]? = some (.bool true) := hEA.dst 32 _ 69 rfl rfl; have e83 : Fr.tmps[83]? = some (.bool true) := hEA.dst 46 _ 83 rfl rfl; simp [execOp, e69, e83, go_sem]
            · exact ob_move _ rfl (want_none rfl) (by kernel_rfl) (eval_dst hEA (j := 47) rfl rfl)
            · exact ob_move _ rfl (want_is hEA (g := 48) (x := true) (b := true) rfl rfl rfl rfl) (by kernel_rfl) (eval_out hEA (d := 0) (by kernel_rfl))
            · refine ob_call (q := 2) (f := 19) (args := #[.slice (some ⟨g0, o0, none⟩) n ca]) (want_is hEA (g := 48) (x := true) (b := true) rfl rfl rfl rfl) (by kernel_rfl) (fun w' => by have e86 : Fr.tmps[86]? = some (.slice (some ⟨g0, o0, none⟩) n ca) := hEA.dst 49 _ 86 rfl rfl; simp [e86, go_sem]) ?_
              intro w' hw
              refine (Calls.mono (R := fun E W' => E = .returned (.int .i64 z) ∧ Below w'.heap.size w' W') (HT.out _ w' (keeps_spots _ _ _ _ _ _ HX.out hw hw.size)) ?_)
              rintro e w2 ⟨rfl, hb⟩
              exact ⟨rfl, hw.trans (hb.mono hw.size)⟩
            · exact ob_move _ rfl (want_is hEA (g := 48) (x := true) (b := true) rfl rfl rfl rfl) (by kernel_rfl) (eval_out hEA (d := 5) (by kernel_rfl))
            · refine ob_val (want_is hEA (g := 48) (x := true) (b := true) rfl rfl rfl rfl) (by kernel_rfl) (fun ph w' hp hpm hw => ?_)
              have e88 : Fr.tmps[88]? = some (.slice (some ⟨g5, o5, none⟩) m c5) := hEA.dst 51 _ 88 rfl rfl; simp [e88, go_sem]
            · refine ob_val (want_is hEA (g := 48) (x := true) (b := true) rfl rfl rfl rfl) (by kernel_rfl) (fun ph w' hp hpm hw => ?_)
              have e87 : Fr.tmps[87]? = some (.int .i64 z) := hEA.dst 50 _ 87 rfl rfl; have e89 : Fr.tmps[89]? = some (.int .i64 (m : Int)) := hEA.dst 52 _ 89 rfl rfl; simp [execOp, e87, e89, hzm, go_sem]
            · refine ob_val (want_none rfl) (by kernel_rfl) (fun ph w' hp hpm hw => ?_)
              have e85 : Fr.tmps[85]? = some (.bool true) := hEA.dst 48 _ 85 rfl rfl; have e90 : Fr.tmps[90]? = some (.bool true) := hEA.dst 53 _ 90 rfl rfl; simp [execOp, e85, e90, go_sem]
            · refine ob_val (want_none rfl) (by kernel_rfl) (fun ph w' hp hpm hw => ?_)
              have e91 : Fr.tmps[91]? = some (.bool true) := hEA.dst 54 _ 91 rfl rfl; simp [execOp, e91, go_sem]
          · intro w' hw
            simp only [laid, Act.put, List.setIfInBounds_toArray, List.set_cons_succ, List.set_cons_zero, List.getD_cons_succ, List.getD_cons_zero, Nat.zero_add, Nat.reduceAdd]
            go_wp2
            go_ret
            exact ⟨rfl, B.trans (hw.mono B.size)⟩

end Go.Proofs.Ytgnebmandifhiaa
