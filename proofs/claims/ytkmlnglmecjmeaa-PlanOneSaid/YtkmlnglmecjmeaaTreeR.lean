import Derived.Test.YtkmlnglmecjmeaaTreeA
import Derived.Test.YtkmlnglmecjmeaaPhaseA
/- Whether lists of members are the same, whether each may be and is there once, whether spots may be a tree; lodge/tree's and the document's. Condition: the slices read as members (spots), of at most a million. -/
namespace Go.Proofs.Ytkmlnglmecjmeaa
open Go.RowKit
set_option linter.unusedVariables false

theorem once_step (m : List (Int × Int)) (k : Nat) : (List.range (k + 1)).all (okAt m) = ((List.range k).all (okAt m) && okAt m k) := by
  rw [List.range_succ, List.all_append]
  simp only [List.all_cons, List.all_nil, Bool.and_true]
theorem once_not (m : List (Int × Int)) (k : Nat) (h : k < m.length) (hb : okAt m k = false) : once m = false := by
  unfold once
  rw [List.all_eq_false]
  exact ⟨k, List.mem_range.2 h, by rw [hb]; simp⟩
theorem okAt_is (m : List (Int × Int)) (k : Nat) (h : k < m.length) (a b : Int) (e : m[k] = (a, b)) : okAt m k = (okM a b && !decide ((a, b) ∈ m.take k)) := by
  unfold okAt
  have : m.getD k (0, 0) = (a, b) := by simp [h, e]
  rw [this]
theorem add_nought (b off : Nat) : (⟨b, off, none⟩ : Addr).add 0 = ⟨b, off, none⟩ := by simp [Addr.add]
/-- The first k members. -/
theorem mems_front {n : Nat} {w : World} {ms : List (Int × Int)} {b off m cap : Nat} (h : Mems n w ms [.slice (some ⟨b, off, none⟩) m cap]) (k : Nat) (hk : k ≤ ms.length) : Mems n w (ms.take k) [.slice (some ⟨b, off, none⟩) k cap] := by
  have h1 := slice_cut h 0 k (Nat.zero_le _) hk
  have e : sliced (some ⟨b, off, none⟩) 0 k cap 2 = .slice (some ⟨b, off, none⟩) k cap := by
    unfold sliced
    by_cases hc : cap = 0 <;> simp [hc, add_nought]
  rw [e] at h1
  simpa using h1
set_option maxRecDepth 100000 in
theorem front_run (b off n k cap : Nat) (hk : k ≤ cap) (wx : World) : (Instr.slice 22 (.slice (some ⟨b, off, none⟩) n cap) none (some (.int .i64 (k : Int))) none).run Try.prog wx = .ok (.slice (some ⟨b, off, none⟩) k cap) wx := by
  rw [run_slice_h _ _ _ _ _ Try.underlying22 _ _ (by omega) (by omega)]
  have e : sliced (some ⟨b, off, none⟩) 0 k cap 2 = .slice (some ⟨b, off, none⟩) k cap := by
    unfold sliced
    by_cases hc : cap = 0 <;> simp [hc, add_nought]
  have es : (sizeOf (Try.prog.elem 22)).run Try.prog wx = .ok 2 wx := Try.sizeOf27 wx
  rw [es]
  simp only [Result.andThen, Int.toNat_natCast, e]


theorem okT_len {xs : List Sp} (hp : xs.length ≠ 0) : okT xs = (decide (xs.length ≤ 128) && (endI xs 0 == (xs.length : Int)) && xs.all noWho && once (lv xs)) := by
  unfold okT
  have : xs.isEmpty = false := by cases xs <;> simp_all
  rw [this, Bool.false_or]

set_option maxRecDepth 100000 in
set_option maxHeartbeats 4000000 in
theorem refRight_any (v : Value) (xs : List Sp) (w : World) (h : Spots w.heap.size w xs [v]) (hn : xs.length ≤ 1000000) :
    Calls Try.prog 13 #[v] w fun e W' => e = .returned (.bool (okT xs)) ∧ Below w.heap.size w W' := by
  have HM := Lib.hid h
  obtain ⟨A, cap, rfl, hlc, hcm, hp⟩ := spots_at h
  have HP := Lib.hid hp
  have hcm2 : cap ≤ 9223372036854775807 := Nat.le_trans hcm (by decide)
  clear h hp hcm
  by_cases h0 : xs.length = 0
  · have HE : Hid (okT xs = true) := Lib.hid (by rw [List.eq_nil_of_length_eq_zero h0]; rfl)
    have hz : ((xs.length : Int) == 0) = true := by simp [h0]
    go_enter Try.func13, Try.ntmps13
    go_wp2
    go_ret
    exact ⟨rbool HE.out.symm, Below.refl _ _⟩
  · have HE := Lib.hid (okT_len h0)
    have hz : ((xs.length : Int) == 0) = false := beq_eq_false_iff_ne.2 (by omega)
    by_cases h1 : xs.length ≤ 128
    · have hd : decide (128 < xs.length) = false := decide_eq_false (by omega)
      have hd2 : decide ((128 : Int) < (xs.length : Int)) = false := decide_eq_false (by omega)
      go_enter Try.func13, Try.ntmps13
      go_wp2_with fail
      refine (refEnd_any _ xs 0 w HM.out hn).mono ?_
      rintro e W1 ⟨rfl, rfl⟩
      cases h2 : (endI xs 0 == (xs.length : Int))
      · have H2 := Lib.hid h2
        go_wp2
        go_ret
        exact ⟨rbool (by rw [HE.out, H2.out]; simp), Below.refl _ _⟩
      · have H2 := Lib.hid h2
        go_wp2_with fail
        clear h2
        refine (refLeaves_any _ xs w HM.out hn).mono ?_
        rintro e W1 ⟨v', rfl, hm, B1⟩
        have HL := Lib.hid hm
        obtain ⟨A2, cap2, rfl, hlc2, hcm4, hp2⟩ := mems_at hm
        have HP2 := Lib.hid hp2
        have hcm5 : cap2 ≤ 9223372036854775807 := Nat.le_trans hcm4 (by decide)
        have hll := lv_length_le xs
        clear hm hp2 hcm4
        go_wp2_with fail
        go_loopw [4] (fun i wr => ∃ (k : Nat) (wq : World), wq = wr ∧ k ≤ xs.length ∧ i = .int .i64 k ∧ Hid ((xs.take k).all noWho = true) ∧ Below W1.heap.size W1 wr) (fun i _ => xs.length - (intOf i).toNat)
        case atStart => exact ⟨0, _, rfl, Nat.zero_le _, rfl, Lib.hid rfl, Below.refl _ _⟩
        case round =>
          obtain ⟨k, w1, rfl, hk, rfl, HA, B2⟩ := hrel
          by_cases hlt : k < xs.length
          · have hd : decide (k < xs.length) = true := by simpa using hlt
            have hi : (k : Int) < (xs.length : Int) := by omega
            have hge : (0 : Int) ≤ (k : Int) := by omega
            obtain ⟨g, off, rfl, hbn, hc0, hc1, hc2⟩ := HP.out k hlt
            have B12 := B1.trans (B2.mono B1.size)
            have k0 := (B12.cell (p := ⟨g, off + k * 3, none⟩) hbn).trans hc0
            have k1 := (B12.cell (p := ⟨g, off + k * 3 + 1, none⟩) hbn).trans hc1
            have k2 := (B12.cell (p := ⟨g, off + k * 3 + 2, none⟩) hbn).trans hc2
            clear hc0 hc1 hc2
            obtain ⟨⟨b, x, y⟩, hb⟩ : ∃ b, xs[k] = b := ⟨_, rfl⟩
            have HB := Lib.hid hb
            rw [hb] at k0 k1 k2
            clear hb
            simp only at k0 k1 k2
            have HS := Lib.hid (all_take_succ xs k hlt)
            have HN := Lib.hid (all_not xs k hlt)
            cases b
            · by_cases hx : x = 0 ∧ y = 0
              · obtain ⟨rfl, rfl⟩ := hx
                go_wp2
                go_roundw
                case rel => exact ⟨k + 1, _, rfl, by omega, by go_num, Lib.hid (by rw [HS.out, HA.out, HB.out]; rfl), B2⟩
                case measure => simp [intOf]; omega
              · have hno : noWho (false, x, y) = false := by
                  simp only [noWho, Bool.false_or, Bool.and_eq_false_iff, beq_eq_false_iff_ne]
                  omega
                have HO := Lib.hid hno
                clear hno
                by_cases hx0 : x = 0
                · subst hx0
                  have hy : ¬ y = 0 := fun e => hx ⟨rfl, e⟩
                  go_wp2
                  go_ret
                  exact ⟨rbool (by rw [HE.out, HN.out (by rw [HB.out]; exact HO.out)]; simp), B12⟩
                · go_wp2
                  go_ret
                  exact ⟨rbool (by rw [HE.out, HN.out (by rw [HB.out]; exact HO.out)]; simp), B12⟩
            · go_wp2
              go_roundw
              case rel => exact ⟨k + 1, _, rfl, by omega, by go_num, Lib.hid (by rw [HS.out, HA.out, HB.out]; rfl), B2⟩
              case measure => simp [intOf]; omega
          · have hd : decide (k < xs.length) = false := by simpa using hlt
            have H3 : Hid (xs.all noWho = true) := Lib.hid (by have := HA.out; rwa [List.take_of_length_le (by omega)] at this)
            have HM1 := Lib.hid (keeps_mems _ _ _ _ _ _ HL.out B2 B2.size)
            have HQ : Hid (∀ i, (hi : i < (lv xs).length) → ∃ b off, A2 = some ⟨b, off, none⟩ ∧ b < w1.heap.size ∧ w1.cell? ⟨b, off + i * 2, none⟩ = some (.int .i64 (lv xs)[i].1) ∧ w1.cell? ⟨b, off + i * 2 + 1, none⟩ = some (.int .i64 (lv xs)[i].2)) := Lib.hid fun i hi => by
              obtain ⟨b, off, e, hb, c0, c1⟩ := HP2.out i hi
              exact ⟨b, off, e, Nat.lt_of_lt_of_le hb B2.size, (B2.cell (p := ⟨b, off + i * 2, none⟩) hb).trans c0, (B2.cell (p := ⟨b, off + i * 2 + 1, none⟩) hb).trans c1⟩
            have B12 := B1.trans (B2.mono B1.size)
            clear HL HP2 B2 B1 HP
            go_wp2_with fail
            go_loopw [5] (fun i wr => ∃ (k : Nat) (wq : World), wq = wr ∧ k ≤ (lv xs).length ∧ i = .int .i64 k ∧ Hid ((List.range k).all (okAt (lv xs)) = true) ∧ Below w1.heap.size w1 wr) (fun i _ => (lv xs).length - (intOf i).toNat)
            case atStart => exact ⟨0, _, rfl, Nat.zero_le _, rfl, Lib.hid rfl, Below.refl _ _⟩
            case round =>
              obtain ⟨k, wr, rfl, hk, rfl, HA, B⟩ := hrel
              by_cases hlt : k < (lv xs).length
              · have hd : decide (k < (lv xs).length) = true := by simpa using hlt
                have hi : (k : Int) < ((lv xs).length : Int) := by omega
                have hge : (0 : Int) ≤ (k : Int) := by omega
                obtain ⟨g, off, rfl, hbn, hc0, hc1⟩ := HQ.out k hlt
                have k0 := (B.cell (p := ⟨g, off + k * 2, none⟩) hbn).trans hc0
                have k1 := (B.cell (p := ⟨g, off + k * 2 + 1, none⟩) hbn).trans hc1
                have hbn2 : g < wr.heap.size := Nat.lt_of_lt_of_le hbn B.size
                clear hc0 hc1
                obtain ⟨⟨x, y⟩, hb⟩ : ∃ b, (lv xs)[k] = b := ⟨_, rfl⟩
                have HB := Lib.hid (okAt_is (lv xs) k hlt x y hb)
                rw [hb] at k0 k1
                clear hb
                simp only at k0 k1
                have HT := Lib.hid (once_step (lv xs) k)
                have HN := Lib.hid (once_not (lv xs) k hlt)
                have HF := Lib.hid (mems_front (keeps_mems _ _ _ _ _ _ HM1.out B B.size) k hk)
                have HS := Lib.hid (front_run g off (lv xs).length k cap2 (by omega))
                go_wp2_with fail
                cases hok : okM x y
                · have HK := Lib.hid hok
                  clear hok
                  refine wp_region_plan (fun i => ([.slice (some ⟨g, off, none⟩) (lv xs).length cap2, .int .i64 (k : Int), .pointer (some ⟨g, off + k * 2, none⟩), .agg #[.int .i64 x, .int .i64 y], .bool false, .bool true, .bool true, undef, undef, undef, undef, undef, undef, undef, undef, .bool true] : List Value).getD i undef) [4] [0, 0, 0, 0, 0, 1, 1, 1, 1, 1, 1, 1, 1, 1, 1, 1] (fun _ w' => Below wr.heap.size wr w') (by kernel_rfl) (by kernel_rfl) (⟨rfl, rfl, rfl, Nat.le_refl _, fun _ _ => rfl⟩) ?_ ?_
                  · refine Obs_of_ends (by kernel_rfl) ?_
                    intro Fr hEA
                    refine ⟨?_, ?_, ?_, ?_, ?_, ?_, ?_, ?_, ?_, ?_, ?_, ?_, ?_, ?_, ?_, ?_, trivial⟩
                    · exact ob_move _ rfl (want_none rfl) (by kernel_rfl) (eval_out hEA (d := 3) (by kernel_rfl))
                    · exact ob_move _ rfl (want_none rfl) (by kernel_rfl) (eval_out hEA (d := 5) (by kernel_rfl))
                    · refine ob_val (want_none rfl) (by kernel_rfl) (fun ph w' hp hpm hw => ?_)
                      have e48 : Fr.tmps[48]? = some (.slice (some ⟨g, off, none⟩) (lv xs).length cap2) := hEA.dst 0 _ 48 rfl rfl; have e49 : Fr.tmps[49]? = some (.int .i64 (k : Int)) := hEA.dst 1 _ 49 rfl rfl; simp [execOp, e48, e49, hi, hge, go_sem]
                    · refine ob_val (want_none rfl) (by kernel_rfl) (fun ph w' hp hpm hw => ?_)
                      have hc0 := (hw.cell (p := ⟨g, off + k * 2, none⟩) hbn2).trans k0
                      have hc1 := (hw.cell (p := ⟨g, off + k * 2 + 1, none⟩) hbn2).trans k1
                      have e50 : Fr.tmps[50]? = some (.pointer (some ⟨g, off + k * 2, none⟩)) := hEA.dst 2 _ 50 rfl rfl; simp [execOp, e50, hc0, hc1, go_sem]
                    · refine ob_call (q := 0) (f := 6) (args := #[.agg #[.int .i64 x, .int .i64 y]]) (want_none rfl) (by kernel_rfl) (fun w' => by have e51 : Fr.tmps[51]? = some (.agg #[.int .i64 x, .int .i64 y]) := hEA.dst 3 _ 51 rfl rfl; simp [e51, go_sem]) ?_
                      intro w' hw
                      refine (Calls.mono (R := fun E W' => E = .returned (.bool false) ∧ Below w'.heap.size w' W') (by have := refMright_any x y w'; rwa [HK.out] at this) ?_)
                      rintro e w2 ⟨rfl, hb⟩
                      exact ⟨rfl, hw.trans (hb.mono hw.size)⟩
                    · refine ob_val (want_none rfl) (by kernel_rfl) (fun ph w' hp hpm hw => ?_)
                      have e52 : Fr.tmps[52]? = some (.bool false) := hEA.dst 4 _ 52 rfl rfl; simp [execOp, e52, go_sem]
                    · exact ob_move _ rfl (want_none rfl) (by kernel_rfl) (eval_dst hEA (j := 5) rfl rfl)
                    · exact ob_skip (want_is hEA (g := 6) (x := true) (b := false) rfl rfl rfl rfl) (by kernel_rfl) rfl
                    · exact ob_skip (want_is hEA (g := 6) (x := true) (b := false) rfl rfl rfl rfl) (by kernel_rfl) rfl
                    · exact ob_skip (want_is hEA (g := 6) (x := true) (b := false) rfl rfl rfl rfl) (by kernel_rfl) rfl
                    · exact ob_skip (want_is hEA (g := 6) (x := true) (b := false) rfl rfl rfl rfl) (by kernel_rfl) rfl
                    · exact ob_skip (want_is hEA (g := 6) (x := true) (b := false) rfl rfl rfl rfl) (by kernel_rfl) rfl
                    · exact ob_skip (want_is hEA (g := 6) (x := true) (b := false) rfl rfl rfl rfl) (by kernel_rfl) rfl
                    · exact ob_skip (want_is hEA (g := 6) (x := true) (b := false) rfl rfl rfl rfl) (by kernel_rfl) rfl
                    · exact ob_skip (want_is hEA (g := 6) (x := true) (b := false) rfl rfl rfl rfl) (by kernel_rfl) rfl
                    · refine ob_val (want_none rfl) (by kernel_rfl) (fun ph w' hp hpm hw => ?_)
                      have e54 : Fr.tmps[54]? = some (.bool true) := hEA.dst 6 _ 54 rfl rfl; have e62 : Fr.tmps[62]? = some (undef) := hEA.dst 14 _ 62 rfl rfl; simp [execOp, e54, e62, go_sem]
                  · intro w' hw
                    simp only [laid, Act.put, List.setIfInBounds_toArray, List.set_cons_succ, List.set_cons_zero, List.getD_cons_succ, List.getD_cons_zero, Nat.zero_add, Nat.reduceAdd]
                    go_wp2
                    go_ret
                    exact ⟨rbool (by rw [HE.out, HN.out (by rw [HB.out, HK.out]; rfl)]; simp), B12.trans ((B.trans (hw.mono B.size)).mono B12.size)⟩
                · have HK := Lib.hid hok
                  clear hok
                  cases hmem : decide ((x, y) ∈ (lv xs).take k)
                  · have HI := Lib.hid hmem
                    clear hmem
                    refine wp_region_plan (fun i => ([.slice (some ⟨g, off, none⟩) (lv xs).length cap2, .int .i64 (k : Int), .pointer (some ⟨g, off + k * 2, none⟩), .agg #[.int .i64 x, .int .i64 y], .bool true, .bool false, .bool false, .slice (some ⟨g, off, none⟩) (lv xs).length cap2, .int .i64 (k : Int), .slice (some ⟨g, off, none⟩) k cap2, .slice (some ⟨g, off, none⟩) (lv xs).length cap2, .int .i64 (k : Int), .pointer (some ⟨g, off + k * 2, none⟩), .agg #[.int .i64 x, .int .i64 y], .bool false, .bool false] : List Value).getD i undef) [4, 14] [0, 0, 0, 0, 0, 1, 1, 1, 1, 1, 1, 1, 1, 1, 1, 2] (fun _ w' => Below wr.heap.size wr w') (by kernel_rfl) (by kernel_rfl) (⟨rfl, rfl, rfl, Nat.le_refl _, fun _ _ => rfl⟩) ?_ ?_
                    · refine Obs_of_ends (by kernel_rfl) ?_
                      intro Fr hEA
                      refine ⟨?_, ?_, ?_, ?_, ?_, ?_, ?_, ?_, ?_, ?_, ?_, ?_, ?_, ?_, ?_, ?_, trivial⟩
                      · exact ob_move _ rfl (want_none rfl) (by kernel_rfl) (eval_out hEA (d := 3) (by kernel_rfl))
                      · exact ob_move _ rfl (want_none rfl) (by kernel_rfl) (eval_out hEA (d := 5) (by kernel_rfl))
                      · refine ob_val (want_none rfl) (by kernel_rfl) (fun ph w' hp hpm hw => ?_)
                        have e48 : Fr.tmps[48]? = some (.slice (some ⟨g, off, none⟩) (lv xs).length cap2) := hEA.dst 0 _ 48 rfl rfl; have e49 : Fr.tmps[49]? = some (.int .i64 (k : Int)) := hEA.dst 1 _ 49 rfl rfl; simp [execOp, e48, e49, hi, hge, go_sem]
                      · refine ob_val (want_none rfl) (by kernel_rfl) (fun ph w' hp hpm hw => ?_)
                        have hc0 := (hw.cell (p := ⟨g, off + k * 2, none⟩) hbn2).trans k0
                        have hc1 := (hw.cell (p := ⟨g, off + k * 2 + 1, none⟩) hbn2).trans k1
                        have e50 : Fr.tmps[50]? = some (.pointer (some ⟨g, off + k * 2, none⟩)) := hEA.dst 2 _ 50 rfl rfl; simp [execOp, e50, hc0, hc1, go_sem]
                      · refine ob_call (q := 0) (f := 6) (args := #[.agg #[.int .i64 x, .int .i64 y]]) (want_none rfl) (by kernel_rfl) (fun w' => by have e51 : Fr.tmps[51]? = some (.agg #[.int .i64 x, .int .i64 y]) := hEA.dst 3 _ 51 rfl rfl; simp [e51, go_sem]) ?_
                        intro w' hw
                        refine (Calls.mono (R := fun E W' => E = .returned (.bool true) ∧ Below w'.heap.size w' W') (by have := refMright_any x y w'; rwa [HK.out] at this) ?_)
                        rintro e w2 ⟨rfl, hb⟩
                        exact ⟨rfl, hw.trans (hb.mono hw.size)⟩
                      · refine ob_val (want_none rfl) (by kernel_rfl) (fun ph w' hp hpm hw => ?_)
                        have e52 : Fr.tmps[52]? = some (.bool true) := hEA.dst 4 _ 52 rfl rfl; simp [execOp, e52, go_sem]
                      · exact ob_move _ rfl (want_none rfl) (by kernel_rfl) (eval_dst hEA (j := 5) rfl rfl)
                      · exact ob_move _ rfl (want_is hEA (g := 6) (x := false) (b := false) rfl rfl rfl rfl) (by kernel_rfl) (eval_out hEA (d := 3) (by kernel_rfl))
                      · exact ob_move _ rfl (want_is hEA (g := 6) (x := false) (b := false) rfl rfl rfl rfl) (by kernel_rfl) (eval_out hEA (d := 5) (by kernel_rfl))
                      · refine ob_val (want_is hEA (g := 6) (x := false) (b := false) rfl rfl rfl rfl) (by kernel_rfl) (fun ph w' hp hpm hw => ?_)
                        have e55 : Fr.tmps[55]? = some (.slice (some ⟨g, off, none⟩) (lv xs).length cap2) := hEA.dst 7 _ 55 rfl rfl; have e56 : Fr.tmps[56]? = some (.int .i64 (k : Int)) := hEA.dst 8 _ 56 rfl rfl; simp [execOp, e55, e56, HS.out, go_sem]
                      · exact ob_move _ rfl (want_is hEA (g := 6) (x := false) (b := false) rfl rfl rfl rfl) (by kernel_rfl) (eval_out hEA (d := 3) (by kernel_rfl))
                      · exact ob_move _ rfl (want_is hEA (g := 6) (x := false) (b := false) rfl rfl rfl rfl) (by kernel_rfl) (eval_out hEA (d := 5) (by kernel_rfl))
                      · refine ob_val (want_is hEA (g := 6) (x := false) (b := false) rfl rfl rfl rfl) (by kernel_rfl) (fun ph w' hp hpm hw => ?_)
                        have e58 : Fr.tmps[58]? = some (.slice (some ⟨g, off, none⟩) (lv xs).length cap2) := hEA.dst 10 _ 58 rfl rfl; have e59 : Fr.tmps[59]? = some (.int .i64 (k : Int)) := hEA.dst 11 _ 59 rfl rfl; simp [execOp, e58, e59, hi, hge, go_sem]
                      · refine ob_val (want_is hEA (g := 6) (x := false) (b := false) rfl rfl rfl rfl) (by kernel_rfl) (fun ph w' hp hpm hw => ?_)
                        have hc0 := (hw.cell (p := ⟨g, off + k * 2, none⟩) hbn2).trans k0
                        have hc1 := (hw.cell (p := ⟨g, off + k * 2 + 1, none⟩) hbn2).trans k1
                        have e60 : Fr.tmps[60]? = some (.pointer (some ⟨g, off + k * 2, none⟩)) := hEA.dst 12 _ 60 rfl rfl; simp [execOp, e60, hc0, hc1, go_sem]
                      · refine ob_call (q := 1) (f := 7) (args := #[.slice (some ⟨g, off, none⟩) k cap2, .agg #[.int .i64 x, .int .i64 y]]) (want_is hEA (g := 6) (x := false) (b := false) rfl rfl rfl rfl) (by kernel_rfl) (fun w' => by have e57 : Fr.tmps[57]? = some (.slice (some ⟨g, off, none⟩) k cap2) := hEA.dst 9 _ 57 rfl rfl; have e61 : Fr.tmps[61]? = some (.agg #[.int .i64 x, .int .i64 y]) := hEA.dst 13 _ 61 rfl rfl; simp [e57, e61, go_sem]) ?_
                        intro w' hw
                        refine (Calls.mono (R := fun E W' => E = .returned (.bool false) ∧ Below w'.heap.size w' W') (by have := refHas_any _ _ x y w' (keeps_mems _ _ _ _ _ _ HF.out hw hw.size); rwa [HI.out] at this) ?_)
                        rintro e w2 ⟨rfl, hb⟩
                        exact ⟨rfl, hw.trans (hb.mono hw.size)⟩
                      · refine ob_val (want_none rfl) (by kernel_rfl) (fun ph w' hp hpm hw => ?_)
                        have e54 : Fr.tmps[54]? = some (.bool false) := hEA.dst 6 _ 54 rfl rfl; have e62 : Fr.tmps[62]? = some (.bool false) := hEA.dst 14 _ 62 rfl rfl; simp [execOp, e54, e62, go_sem]
                    · intro w' hw
                      simp only [laid, Act.put, List.setIfInBounds_toArray, List.set_cons_succ, List.set_cons_zero, List.getD_cons_succ, List.getD_cons_zero, Nat.zero_add, Nat.reduceAdd]
                      go_wp2
                      go_roundw
                      case rel => exact ⟨k + 1, _, rfl, by omega, by go_num, Lib.hid (by rw [HT.out, HA.out, HB.out, HK.out, HI.out]; rfl), B.trans (hw.mono B.size)⟩
                      case measure => simp [intOf]; omega
                  · have HI := Lib.hid hmem
                    clear hmem
                    refine wp_region_plan (fun i => ([.slice (some ⟨g, off, none⟩) (lv xs).length cap2, .int .i64 (k : Int), .pointer (some ⟨g, off + k * 2, none⟩), .agg #[.int .i64 x, .int .i64 y], .bool true, .bool false, .bool false, .slice (some ⟨g, off, none⟩) (lv xs).length cap2, .int .i64 (k : Int), .slice (some ⟨g, off, none⟩) k cap2, .slice (some ⟨g, off, none⟩) (lv xs).length cap2, .int .i64 (k : Int), .pointer (some ⟨g, off + k * 2, none⟩), .agg #[.int .i64 x, .int .i64 y], .bool true, .bool true] : List Value).getD i undef) [4, 14] [0, 0, 0, 0, 0, 1, 1, 1, 1, 1, 1, 1, 1, 1, 1, 2] (fun _ w' => Below wr.heap.size wr w') (by kernel_rfl) (by kernel_rfl) (⟨rfl, rfl, rfl, Nat.le_refl _, fun _ _ => rfl⟩) ?_ ?_
                    · refine Obs_of_ends (by kernel_rfl) ?_
                      intro Fr hEA
                      refine ⟨?_, ?_, ?_, ?_, ?_, ?_, ?_, ?_, ?_, ?_, ?_, ?_, ?_, ?_, ?_, ?_, trivial⟩
                      · exact ob_move _ rfl (want_none rfl) (by kernel_rfl) (eval_out hEA (d := 3) (by kernel_rfl))
                      · exact ob_move _ rfl (want_none rfl) (by kernel_rfl) (eval_out hEA (d := 5) (by kernel_rfl))
                      · refine ob_val (want_none rfl) (by kernel_rfl) (fun ph w' hp hpm hw => ?_)
                        have e48 : Fr.tmps[48]? = some (.slice (some ⟨g, off, none⟩) (lv xs).length cap2) := hEA.dst 0 _ 48 rfl rfl; have e49 : Fr.tmps[49]? = some (.int .i64 (k : Int)) := hEA.dst 1 _ 49 rfl rfl; simp [execOp, e48, e49, hi, hge, go_sem]
                      · refine ob_val (want_none rfl) (by kernel_rfl) (fun ph w' hp hpm hw => ?_)
                        have hc0 := (hw.cell (p := ⟨g, off + k * 2, none⟩) hbn2).trans k0
                        have hc1 := (hw.cell (p := ⟨g, off + k * 2 + 1, none⟩) hbn2).trans k1
                        have e50 : Fr.tmps[50]? = some (.pointer (some ⟨g, off + k * 2, none⟩)) := hEA.dst 2 _ 50 rfl rfl; simp [execOp, e50, hc0, hc1, go_sem]
                      · refine ob_call (q := 0) (f := 6) (args := #[.agg #[.int .i64 x, .int .i64 y]]) (want_none rfl) (by kernel_rfl) (fun w' => by have e51 : Fr.tmps[51]? = some (.agg #[.int .i64 x, .int .i64 y]) := hEA.dst 3 _ 51 rfl rfl; simp [e51, go_sem]) ?_
                        intro w' hw
                        refine (Calls.mono (R := fun E W' => E = .returned (.bool true) ∧ Below w'.heap.size w' W') (by have := refMright_any x y w'; rwa [HK.out] at this) ?_)
                        rintro e w2 ⟨rfl, hb⟩
                        exact ⟨rfl, hw.trans (hb.mono hw.size)⟩
                      · refine ob_val (want_none rfl) (by kernel_rfl) (fun ph w' hp hpm hw => ?_)
                        have e52 : Fr.tmps[52]? = some (.bool true) := hEA.dst 4 _ 52 rfl rfl; simp [execOp, e52, go_sem]
                      · exact ob_move _ rfl (want_none rfl) (by kernel_rfl) (eval_dst hEA (j := 5) rfl rfl)
                      · exact ob_move _ rfl (want_is hEA (g := 6) (x := false) (b := false) rfl rfl rfl rfl) (by kernel_rfl) (eval_out hEA (d := 3) (by kernel_rfl))
                      · exact ob_move _ rfl (want_is hEA (g := 6) (x := false) (b := false) rfl rfl rfl rfl) (by kernel_rfl) (eval_out hEA (d := 5) (by kernel_rfl))
                      · refine ob_val (want_is hEA (g := 6) (x := false) (b := false) rfl rfl rfl rfl) (by kernel_rfl) (fun ph w' hp hpm hw => ?_)
                        have e55 : Fr.tmps[55]? = some (.slice (some ⟨g, off, none⟩) (lv xs).length cap2) := hEA.dst 7 _ 55 rfl rfl; have e56 : Fr.tmps[56]? = some (.int .i64 (k : Int)) := hEA.dst 8 _ 56 rfl rfl; simp [execOp, e55, e56, HS.out, go_sem]
                      · exact ob_move _ rfl (want_is hEA (g := 6) (x := false) (b := false) rfl rfl rfl rfl) (by kernel_rfl) (eval_out hEA (d := 3) (by kernel_rfl))
                      · exact ob_move _ rfl (want_is hEA (g := 6) (x := false) (b := false) rfl rfl rfl rfl) (by kernel_rfl) (eval_out hEA (d := 5) (by kernel_rfl))
                      · refine ob_val (want_is hEA (g := 6) (x := false) (b := false) rfl rfl rfl rfl) (by kernel_rfl) (fun ph w' hp hpm hw => ?_)
                        have e58 : Fr.tmps[58]? = some (.slice (some ⟨g, off, none⟩) (lv xs).length cap2) := hEA.dst 10 _ 58 rfl rfl; have e59 : Fr.tmps[59]? = some (.int .i64 (k : Int)) := hEA.dst 11 _ 59 rfl rfl; simp [execOp, e58, e59, hi, hge, go_sem]
                      · refine ob_val (want_is hEA (g := 6) (x := false) (b := false) rfl rfl rfl rfl) (by kernel_rfl) (fun ph w' hp hpm hw => ?_)
                        have hc0 := (hw.cell (p := ⟨g, off + k * 2, none⟩) hbn2).trans k0
                        have hc1 := (hw.cell (p := ⟨g, off + k * 2 + 1, none⟩) hbn2).trans k1
                        have e60 : Fr.tmps[60]? = some (.pointer (some ⟨g, off + k * 2, none⟩)) := hEA.dst 12 _ 60 rfl rfl; simp [execOp, e60, hc0, hc1, go_sem]
                      · refine ob_call (q := 1) (f := 7) (args := #[.slice (some ⟨g, off, none⟩) k cap2, .agg #[.int .i64 x, .int .i64 y]]) (want_is hEA (g := 6) (x := false) (b := false) rfl rfl rfl rfl) (by kernel_rfl) (fun w' => by have e57 : Fr.tmps[57]? = some (.slice (some ⟨g, off, none⟩) k cap2) := hEA.dst 9 _ 57 rfl rfl; have e61 : Fr.tmps[61]? = some (.agg #[.int .i64 x, .int .i64 y]) := hEA.dst 13 _ 61 rfl rfl; simp [e57, e61, go_sem]) ?_
                        intro w' hw
                        refine (Calls.mono (R := fun E W' => E = .returned (.bool true) ∧ Below w'.heap.size w' W') (by have := refHas_any _ _ x y w' (keeps_mems _ _ _ _ _ _ HF.out hw hw.size); rwa [HI.out] at this) ?_)
                        rintro e w2 ⟨rfl, hb⟩
                        exact ⟨rfl, hw.trans (hb.mono hw.size)⟩
                      · refine ob_val (want_none rfl) (by kernel_rfl) (fun ph w' hp hpm hw => ?_)
                        have e54 : Fr.tmps[54]? = some (.bool false) := hEA.dst 6 _ 54 rfl rfl; have e62 : Fr.tmps[62]? = some (.bool true) := hEA.dst 14 _ 62 rfl rfl; simp [execOp, e54, e62, go_sem]
                    · intro w' hw
                      simp only [laid, Act.put, List.setIfInBounds_toArray, List.set_cons_succ, List.set_cons_zero, List.getD_cons_succ, List.getD_cons_zero, Nat.zero_add, Nat.reduceAdd]
                      go_wp2
                      go_ret
                      exact ⟨rbool (by rw [HE.out, HN.out (by rw [HB.out, HK.out, HI.out]; rfl)]; simp), B12.trans ((B.trans (hw.mono B.size)).mono B12.size)⟩
              · have hd : decide (k < (lv xs).length) = false := by simpa using hlt
                have HO : Hid (okT xs = true) := Lib.hid (by
                  have h4 : once (lv xs) = true := by have := HA.out; rw [show k = (lv xs).length by omega] at this; exact this
                  rw [HE.out, decide_eq_true h1, H2.out, H3.out, h4]; rfl)
                have hd2 : decide ((lv xs).length ≤ 64) = true := decide_eq_true (okT_few HO.out)
                have hd3 : decide (((lv xs).length : Int) ≤ 64) = true := decide_eq_true (by have := okT_few HO.out; omega)
                go_wp2
                go_ret
                exact ⟨rbool HO.out.symm, B12.trans (B.mono B12.size)⟩
    · have hd : decide (128 < xs.length) = true := decide_eq_true (by omega)
      have hd2 : decide ((128 : Int) < (xs.length : Int)) = true := decide_eq_true (by omega)
      go_enter Try.func13, Try.ntmps13
      go_wp2
      go_ret
      exact ⟨rbool (by rw [HE.out, decide_eq_false h1]; simp), Below.refl _ _⟩

end Go.Proofs.Ytkmlnglmecjmeaa
