import Derived.Test.YtkmlnglmecjmeaaGraD
import Derived.Test.YtkmlnglmecjmeaaPhaseA
import Derived.Test.YtkmlnglmecjmeaaBoxM
/- Layer 12's comparison of members, the first one of some (slices.MinFunc by it), the comparison of trees. Conditions: the slices read as members (some), as trees' spots, or nothings', of at most 100,000. -/
namespace Go.Proofs.Ytkmlnglmecjmeaa
open Go Go.RowKit
set_option linter.unusedVariables false

set_option maxRecDepth 100000 in
set_option maxHeartbeats 4000000 in
theorem cmpM_any (a b c d : Int) (w : World) : Calls Try.prog 46 #[vM a b, vM c d] w fun e W' => e = .returned (.int .i64 (cmpM a b c d)) ∧ Below w.heap.size w W' := by
  go_enter Try.func46, Try.ntmps46
  go_wp2_with fail
  obtain ⟨W0, hW0, b2, b3, B⟩ : ∃ W0, (w.alloc (.cells #[.int .i64 a, .int .i64 b] 27)).alloc (.cells #[.int .i64 c, .int .i64 d] 27) = W0 ∧ Box W0 w.heap.size [.int .i64 a, .int .i64 b] ∧ Box W0 (w.heap.size + 1) [.int .i64 c, .int .i64 d] ∧ Below w.heap.size w W0 :=
    ⟨_, rfl, (Box.new w _ _).next (below_new _ _), by have := Box.new (w.alloc (.cells #[.int .i64 a, .int .i64 b] 27)) [.int .i64 c, .int .i64 d] 27; rwa [World.size_alloc] at this, below_new2 _ _ _⟩
  rw [hW0]
  clear hW0
  refine (less_any a b c d W0).mono ?_
  rintro e W1 ⟨rfl, hb⟩
  replace b2 := b2.next hb
  replace b3 := b3.next hb
  replace B := B.trans (hb.mono B.size)
  clear hb
  cases h1 : lessM a b c d
  · have H1 := Lib.hid h1
    clear h1
    have q0 := b2.c 0 _ rfl
    have q1 := b2.c 1 _ rfl
    have r0 := b3.c 0 _ rfl
    have r1 := b3.c 1 _ rfl
    go_wp2_with fail
    refine (less_any c d a b W1).mono ?_
    rintro e W2 ⟨rfl, hb⟩
    replace B := B.trans (hb.mono B.size)
    clear hb q0 q1 r0 r1 b2 b3
    cases h2 : lessM c d a b
    · have H2 : Hid (cmpM a b c d = 0) := Lib.hid (by unfold cmpM; rw [H1.out, h2]; rfl)
      clear h2
      go_wp2
      go_ret
      exact ⟨by rw [H2.out]; rfl, B⟩
    · have H2 : Hid (cmpM a b c d = 1) := Lib.hid (by unfold cmpM; rw [H1.out, h2]; rfl)
      clear h2
      go_wp2
      go_ret
      exact ⟨by rw [H2.out]; rfl, B⟩
  · have H1 : Hid (cmpM a b c d = -1) := Lib.hid (by unfold cmpM; rw [h1]; rfl)
    clear h1
    go_wp2
    go_ret
    exact ⟨by rw [H1.out]; rfl, B⟩

set_option maxRecDepth 100000 in
set_option maxHeartbeats 8000000 in
theorem minM_any (v : Value) (m : List (Int × Int)) (w : World) (h : Mems w.heap.size w m [v]) (hn : m.length ≤ 100000) (h0 : m ≠ []) :
    Calls Try.prog 47 #[v, .func (.func 46) #[] #[]] w fun e W' => e = .returned (vM (firstM m).1 (firstM m).2) ∧ Below w.heap.size w W' := by
  obtain ⟨A, cap, rfl, hlc, hcm, hp⟩ := mems_at h
  have hcm2 : cap ≤ 9223372036854775807 := Nat.le_trans hcm (by decide)
  have hpos : 0 < m.length := List.length_pos_iff.2 h0
  have hl1 : decide ((m.length : Int) < 1) = false := decide_eq_false (by omega)
  have HP := Lib.hid hp
  obtain ⟨g0, off0, hA, hgn0, hz0, hz1⟩ := hp 0 hpos
  subst hA
  simp only [Nat.zero_mul, Nat.add_zero] at hz0 hz1
  obtain ⟨⟨x0, y0⟩, hb0⟩ : ∃ q, m[0] = q := ⟨_, rfl⟩
  rw [hb0] at hz0 hz1
  have HF0 : Hid (firstM (m.take 1) = (x0, y0)) := Lib.hid (by
    have := firstM_snoc (m.take 0) m[0]
    rw [← List.take_succ_eq_append_getElem hpos] at this
    rw [this, if_pos (by simp), hb0])
  have hge0 : (0 : Int) < (m.length : Int) := by omega
  clear h hp hcm h0 hb0
  go_enter Try.func47, Try.ntmps47
  have z0 : (w.alloc (.cells #[.int .i64 0, .int .i64 0] 27)).cell? ⟨g0, off0, none⟩ = _ := ((below_new w (.cells #[.int .i64 0, .int .i64 0] 27)).cell (p := ⟨g0, off0, none⟩) hgn0).trans hz0
  have z1 : (w.alloc (.cells #[.int .i64 0, .int .i64 0] 27)).cell? ⟨g0, off0 + 1, none⟩ = _ := ((below_new w (.cells #[.int .i64 0, .int .i64 0] 27)).cell (p := ⟨g0, off0 + 1, none⟩) hgn0).trans hz1
  go_wp2_with fail
  obtain ⟨W0, hW0, b2, b4, B, hsz⟩ : ∃ W0, (w.alloc (.cells #[.int .i64 0, .int .i64 0] 27)).alloc (.cells #[.int .i64 x0, .int .i64 y0] 27) = W0 ∧ Box W0 w.heap.size [.int .i64 0, .int .i64 0] ∧ Box W0 (w.heap.size + 1) [.int .i64 x0, .int .i64 y0] ∧ Below w.heap.size w W0 ∧ W0.heap.size = w.heap.size + 1 + 1 :=
    ⟨_, rfl, (Box.new w _ _).next (below_new _ _), by have := Box.new (w.alloc (.cells #[.int .i64 0, .int .i64 0] 27)) [.int .i64 x0, .int .i64 y0] 27; rwa [World.size_alloc] at this, below_new2 _ _ _, by simp⟩
  rw [hW0]
  obtain ⟨G, hG⟩ : ∃ G, w.heap.size + 1 = G := ⟨_, rfl⟩
  rw [hG] at b4
  try rw [hG]
  have hwG2 : w.heap.size ≠ G := by omega
  have hwG3 : w.heap.size ≤ G := by omega
  have hwG4 : w.heap.size ≤ G := by omega
  have BN : Below w.heap.size w W0 := B
  clear hW0 hsz hG z0 z1 hz0 hz1
  go_loopw [6] (fun iv wr => ∃ (k : Nat) (wq : World) (a b : Int), wq = wr ∧ 0 < k ∧ k ≤ m.length ∧ iv = .int .i64 (k : Int) ∧ Hid (firstM (m.take k) = (a, b)) ∧ Box wr G [.int .i64 a, .int .i64 b] ∧ Box wr w.heap.size [.int .i64 0, .int .i64 0] ∧ Below w.heap.size w wr ∧ Below w.heap.size w wr) (fun iv _ => m.length - (intOf iv).toNat)
  case atStart => exact ⟨1, _, x0, y0, rfl, by decide, hpos, rfl, HF0, b4, b2, B, BN⟩
  case round =>
    clear b4 b2 B BN HF0
    obtain ⟨k, wr, a, b, rfl, hk0, hk, rfl, HA, b4, b2, B, BN⟩ := hrel
    by_cases hlt : k < m.length
    · have hd : decide (k < m.length) = true := by simpa using hlt
      have hi : (k : Int) < (m.length : Int) := by omega
      have hge : (0 : Int) ≤ (k : Int) := by omega
      obtain ⟨g, off, e, hbn, hc0, hc1⟩ := HP.out k hlt
      simp only [Option.some.injEq, Addr.mk.injEq, and_true] at e
      obtain ⟨rfl, rfl⟩ := e
      obtain ⟨g, hgg⟩ : ∃ g, g0 = g := ⟨_, rfl⟩
      obtain ⟨off, hoo⟩ : ∃ off, off0 = off := ⟨_, rfl⟩
      rw [hgg] at hbn
      rw [hgg, hoo] at hc0 hc1
      rw [hgg, hoo]
      have k0 := (B.cell (p := ⟨g, off + k * 2, none⟩) hbn).trans hc0
      have k1 := (B.cell (p := ⟨g, off + k * 2 + 1, none⟩) hbn).trans hc1
      have hfs := firstM_snoc (m.take k) m[k]
      rw [← List.take_succ_eq_append_getElem hlt, HA.out] at hfs
      have HFS := Lib.hid hfs
      obtain ⟨⟨x, y⟩, hb⟩ : ∃ q, m[k] = q := ⟨_, rfl⟩
      rw [hb] at k0 k1 HFS
      have hne : m.take k ≠ [] := by
        intro h
        have h2 : (m.take k).length = k := by rw [List.length_take]; omega
        rw [h] at h2
        simp at h2
        omega
      have hgw : g < wr.heap.size := Nat.lt_of_lt_of_le hbn B.size
      have hGs : w.heap.size ≤ wr.heap.size := B.size
      have hcn := cmpM_neg x y a b
      clear hb hc0 hc1 hfs hgg hoo
      cases hc : lessM x y a b
      · have HA2 : Hid (firstM (m.take (k + 1)) = (a, b)) := Lib.hid (by rw [HFS.out, if_neg hne]; simp [hc])
        rw [hc] at hcn
        clear hc hne HFS
        go_wp2_with fail
        refine wp_region_results (fun r i => ([.func (.func 46) #[] #[], .slice (some ⟨g, off, none⟩) m.length cap, .int .i64 (k : Int), .pointer (some ⟨g, off + k * 2, none⟩), .agg #[.int .i64 x, .int .i64 y], .agg #[.int .i64 a, .int .i64 b], .int .i64 (cmpM x y a b), .bool false] : List Value).getD i undef) [6] [0, 0, 0, 0, 0, 0, 0, 1] (fun r q w' => (Below wr.heap.size wr w')) (by kernel_rfl) (by kernel_rfl) (fun r => ⟨rfl, rfl, rfl, Nat.le_refl _, fun _ _ => rfl⟩) ?_ ?_
        · refine ObsR_of_ends (by kernel_rfl) ?_
          intro r Fr hEA
          refine ⟨?_, ?_, ?_, ?_, ?_, ?_, ?_, ?_, trivial⟩
          · exact obR_move _ rfl (want_none rfl) (by kernel_rfl) (eval_out hEA (d := 1) (by kernel_rfl))
          · exact obR_move _ rfl (want_none rfl) (by kernel_rfl) (eval_out hEA (d := 0) (by kernel_rfl))
          · exact obR_move _ rfl (want_none rfl) (by kernel_rfl) (eval_out hEA (d := 6) (by kernel_rfl))
          · refine obR_val (want_none rfl) (by kernel_rfl) (fun ph w' hp hpm hw => ?_)
            have e21 : Fr.tmps[21]? = some (.slice (some ⟨g, off, none⟩) m.length cap) := hEA.dst 1 _ 21 rfl rfl; have e22 : Fr.tmps[22]? = some (.int .i64 (k : Int)) := hEA.dst 2 _ 22 rfl rfl; simp [execOp, e21, e22, hi, hge, go_sem]
          · refine obR_val (want_none rfl) (by kernel_rfl) (fun ph w' hp hpm hw => ?_)
            have hc0 := (hw.cell (p := ⟨g, off + k * 2, none⟩) hgw).trans k0
            have hc1 := (hw.cell (p := ⟨g, off + k * 2 + 1, none⟩) hgw).trans k1
            have e23 : Fr.tmps[23]? = some (.pointer (some ⟨g, off + k * 2, none⟩)) := hEA.dst 3 _ 23 rfl rfl; simp [execOp, e23, hc0, hc1, go_sem]
          · refine obR_val (want_none rfl) (by kernel_rfl) (fun ph w' hp hpm hw => ?_)
            have hc0 := (hw.cell (p := ⟨G, 0, none⟩) b4.lt).trans (b4.c 0 _ rfl)
            have hc1 := (hw.cell (p := ⟨G, 1, none⟩) b4.lt).trans (b4.c 1 _ rfl)
            have e5 : Fr.tmps[5]? = some (.pointer (some ⟨G, 0, none⟩)) := at_out hEA (d := 5) (by kernel_rfl); simp [execOp, e5, hc0, hc1, go_sem]
          · refine obR_call (q := 0) (f := 46) (args := #[.agg #[.int .i64 x, .int .i64 y], .agg #[.int .i64 a, .int .i64 b]]) (want_none rfl) (by kernel_rfl) (fun w' => by have e20 : Fr.tmps[20]? = some (.func (.func 46) #[] #[]) := hEA.dst 0 _ 20 rfl rfl; have e24 : Fr.tmps[24]? = some (.agg #[.int .i64 x, .int .i64 y]) := hEA.dst 4 _ 24 rfl rfl; have e25 : Fr.tmps[25]? = some (.agg #[.int .i64 a, .int .i64 b]) := hEA.dst 5 _ 25 rfl rfl; simp [e20, e24, e25, go_sem]) ?_
            intro w' hw
            refine (cmpM_any x y a b w').mono ?_
            rintro e w2 ⟨rfl, hb⟩
            exact ⟨_, rfl, fun r' hr hv => ⟨rfl, hw.trans (hb.mono hw.size)⟩⟩
          · refine obR_val (want_none rfl) (by kernel_rfl) (fun ph w' hp hpm hw => ?_)
            have e26 : Fr.tmps[26]? = some (.int .i64 (cmpM x y a b)) := hEA.dst 6 _ 26 rfl rfl; simp [execOp, e26, hcn, go_sem]
        · intro r w' hw
          simp only [laid, Act.put, List.setIfInBounds_toArray, List.set_cons_succ, List.set_cons_zero, List.getD_cons_succ, List.getD_cons_zero, Nat.zero_add, Nat.reduceAdd]
          obtain ⟨wz, hwz⟩ : ∃ wz, w' = wz := ⟨_, rfl⟩
          rw [hwz] at hw
          rw [hwz]
          have c0 := (hw.cell (p := ⟨g, off + k * 2, none⟩) hgw).trans k0
          have c1 := (hw.cell (p := ⟨g, off + k * 2 + 1, none⟩) hgw).trans k1
          replace b4 := b4.next hw
          replace b2 := b2.next hw
          replace B := B.trans (hw.mono B.size)
          replace BN := BN.trans (hw.mono hGs)
          clear hw hwz k0 k1
          clear c0 c1
          go_wp2
          go_roundw
          case rel => exact ⟨k + 1, _, a, b, rfl, by omega, by omega, by go_num, HA2, b4, b2, B, BN⟩
          case measure => simp [intOf]; omega
      · have HA2 : Hid (firstM (m.take (k + 1)) = (x, y)) := Lib.hid (by rw [HFS.out, if_neg hne]; simp [hc])
        rw [hc] at hcn
        clear hc hne HFS
        go_wp2_with fail
        refine wp_region_results (fun r i => ([.func (.func 46) #[] #[], .slice (some ⟨g, off, none⟩) m.length cap, .int .i64 (k : Int), .pointer (some ⟨g, off + k * 2, none⟩), .agg #[.int .i64 x, .int .i64 y], .agg #[.int .i64 a, .int .i64 b], .int .i64 (cmpM x y a b), .bool true] : List Value).getD i undef) [6] [0, 0, 0, 0, 0, 0, 0, 1] (fun r q w' => (Below wr.heap.size wr w')) (by kernel_rfl) (by kernel_rfl) (fun r => ⟨rfl, rfl, rfl, Nat.le_refl _, fun _ _ => rfl⟩) ?_ ?_
        · refine ObsR_of_ends (by kernel_rfl) ?_
          intro r Fr hEA
          refine ⟨?_, ?_, ?_, ?_, ?_, ?_, ?_, ?_, trivial⟩
          · exact obR_move _ rfl (want_none rfl) (by kernel_rfl) (eval_out hEA (d := 1) (by kernel_rfl))
          · exact obR_move _ rfl (want_none rfl) (by kernel_rfl) (eval_out hEA (d := 0) (by kernel_rfl))
          · exact obR_move _ rfl (want_none rfl) (by kernel_rfl) (eval_out hEA (d := 6) (by kernel_rfl))
          · refine obR_val (want_none rfl) (by kernel_rfl) (fun ph w' hp hpm hw => ?_)
            have e21 : Fr.tmps[21]? = some (.slice (some ⟨g, off, none⟩) m.length cap) := hEA.dst 1 _ 21 rfl rfl; have e22 : Fr.tmps[22]? = some (.int .i64 (k : Int)) := hEA.dst 2 _ 22 rfl rfl; simp [execOp, e21, e22, hi, hge, go_sem]
          · refine obR_val (want_none rfl) (by kernel_rfl) (fun ph w' hp hpm hw => ?_)
            have hc0 := (hw.cell (p := ⟨g, off + k * 2, none⟩) hgw).trans k0
            have hc1 := (hw.cell (p := ⟨g, off + k * 2 + 1, none⟩) hgw).trans k1
            have e23 : Fr.tmps[23]? = some (.pointer (some ⟨g, off + k * 2, none⟩)) := hEA.dst 3 _ 23 rfl rfl; simp [execOp, e23, hc0, hc1, go_sem]
          · refine obR_val (want_none rfl) (by kernel_rfl) (fun ph w' hp hpm hw => ?_)
            have hc0 := (hw.cell (p := ⟨G, 0, none⟩) b4.lt).trans (b4.c 0 _ rfl)
            have hc1 := (hw.cell (p := ⟨G, 1, none⟩) b4.lt).trans (b4.c 1 _ rfl)
            have e5 : Fr.tmps[5]? = some (.pointer (some ⟨G, 0, none⟩)) := at_out hEA (d := 5) (by kernel_rfl); simp [execOp, e5, hc0, hc1, go_sem]
          · refine obR_call (q := 0) (f := 46) (args := #[.agg #[.int .i64 x, .int .i64 y], .agg #[.int .i64 a, .int .i64 b]]) (want_none rfl) (by kernel_rfl) (fun w' => by have e20 : Fr.tmps[20]? = some (.func (.func 46) #[] #[]) := hEA.dst 0 _ 20 rfl rfl; have e24 : Fr.tmps[24]? = some (.agg #[.int .i64 x, .int .i64 y]) := hEA.dst 4 _ 24 rfl rfl; have e25 : Fr.tmps[25]? = some (.agg #[.int .i64 a, .int .i64 b]) := hEA.dst 5 _ 25 rfl rfl; simp [e20, e24, e25, go_sem]) ?_
            intro w' hw
            refine (cmpM_any x y a b w').mono ?_
            rintro e w2 ⟨rfl, hb⟩
            exact ⟨_, rfl, fun r' hr hv => ⟨rfl, hw.trans (hb.mono hw.size)⟩⟩
          · refine obR_val (want_none rfl) (by kernel_rfl) (fun ph w' hp hpm hw => ?_)
            have e26 : Fr.tmps[26]? = some (.int .i64 (cmpM x y a b)) := hEA.dst 6 _ 26 rfl rfl; simp [execOp, e26, hcn, go_sem]
        · intro r w' hw
          simp only [laid, Act.put, List.setIfInBounds_toArray, List.set_cons_succ, List.set_cons_zero, List.getD_cons_succ, List.getD_cons_zero, Nat.zero_add, Nat.reduceAdd]
          obtain ⟨wz, hwz⟩ : ∃ wz, w' = wz := ⟨_, rfl⟩
          rw [hwz] at hw
          rw [hwz]
          have c0 := (hw.cell (p := ⟨g, off + k * 2, none⟩) hgw).trans k0
          have c1 := (hw.cell (p := ⟨g, off + k * 2 + 1, none⟩) hgw).trans k1
          replace b4 := b4.next hw
          replace b2 := b2.next hw
          replace B := B.trans (hw.mono B.size)
          replace BN := BN.trans (hw.mono hGs)
          clear hw hwz k0 k1
          have s0 := b4.c 0 _ rfl
          have s1 := b4.c 1 _ rfl
          have g0 := b4.f 0 (by simp)
          have g1 := b4.f 1 (by simp)
          have HBX := Lib.hid (b4.two (.int .i64 x) (.int .i64 y))
          have HB2 := Lib.hid (b2.aside hwG2 (.int .i64 x) (.int .i64 y))
          have HB := Lib.hid ((B.setCell (p := ⟨G, 0, none⟩) hwG3 (.int .i64 x)).setCell (p := ⟨G, 1, none⟩) hwG3 (.int .i64 y))
          have HBN := Lib.hid ((BN.setCell (p := ⟨G, 0, none⟩) hwG4 (.int .i64 x)).setCell (p := ⟨G, 1, none⟩) hwG4 (.int .i64 y))
          clear b4 b2 B BN
          go_wp2
          go_roundw
          case rel => exact ⟨k + 1, _, x, y, rfl, by omega, by omega, by go_num, HA2, HBX.out, HB2.out, HB.out, HBN.out⟩
          case measure => simp [intOf]; omega
    · have hd : decide (k < m.length) = false := by simpa using hlt
      have hkk : m.take k = m := List.take_of_length_le (by omega)
      have HR : Hid (firstM m = (a, b)) := Lib.hid (by rw [← hkk]; exact HA.out)
      have q0 := b4.c 0 _ rfl
      have q1 := b4.c 1 _ rfl
      have r0 := b2.c 0 _ rfl
      have r1 := b2.c 1 _ rfl
      have g0 := b2.f 0 (by decide)
      have g1 := b2.f 1 (by decide)
      have HB := Lib.hid B
      clear b4 b2 B BN hkk HA
      go_wp2
      (try simp only [Exit.inBlock, Exit.then]); refine bodyPost_ret (v := .agg #[.int .i64 a, .int .i64 b]) (by simp [results, Try.results47, go_sem, r0, r1]) rfl ?_
      rw [HR.out]
      exact ⟨rfl, (HB.out.setCell (p := ⟨w.heap.size, 0, none⟩) (Nat.le_refl _) _).setCell (p := ⟨w.heap.size, 1, none⟩) (Nat.le_refl _) _⟩

set_option maxRecDepth 100000 in
set_option maxHeartbeats 8000000 in
theorem cmpT_any (v u : Value) (x y : Option Tr) (w : World) (h : Spots w.heap.size w (spo x) [v]) (h' : Spots w.heap.size w (spo y) [u]) (hn : (spo x).length ≤ 100000) (hn' : (spo y).length ≤ 100000) :
    Calls Try.prog 36 #[v, u] w fun e W' => e = .returned (.int .i64 (cmpO x y)) ∧ Below w.heap.size w W' := by
  have HX := Lib.hid h
  have HY := Lib.hid h'
  clear h h'
  go_enter Try.func36, Try.ntmps36
  go_wp2_with fail
  refine (leaves_any v (spo x) w HX.out (by omega)).mono ?_
  rintro e W1 ⟨va, rfl, hva, B⟩
  have HVA := Lib.hid hva
  replace HY := Lib.hid (keeps_spots _ _ _ _ _ _ HY.out B B.size)
  have hln : (lvO x).length ≤ 100000 := Nat.le_trans (lv_length_le _) hn
  obtain ⟨n, hnn⟩ : ∃ n, (lvO x).length = n := ⟨_, rfl⟩
  obtain ⟨A, ca, rfl, -, hca⟩ := mems_len hva n hnn
  clear hva
  go_wp2_with fail
  refine (leaves_any u (spo y) W1 HY.out (by omega)).mono ?_
  rintro e W2 ⟨vb, rfl, hvb, hb⟩
  have HVB := Lib.hid hvb
  replace HVA := Lib.hid (keeps_mems _ _ _ _ _ _ HVA.out hb hb.size)
  replace B := B.trans (hb.mono B.size)
  have hlk : (lvO y).length ≤ 100000 := Nat.le_trans (lv_length_le _) hn'
  obtain ⟨k, hkk⟩ : ∃ k, (lvO y).length = k := ⟨_, rfl⟩
  obtain ⟨A', cb, rfl, -, hcb⟩ := mems_len hvb k hkk
  clear hvb hb HX HY
  rw [hnn] at hln
  rw [hkk] at hlk
  have HE : Hid (cmpO x y = if n ≠ k ∨ n = 0 then (k : Int) - n else cmpM (firstM (lvO x)).1 (firstM (lvO x)).2 (firstM (lvO y)).1 (firstM (lvO y)).2) := Lib.hid (by unfold cmpO; rw [hnn, hkk])
  by_cases h1 : n = k
  · by_cases h2 : n = 0
    · have hd1 : ((n : Int) != (k : Int)) = false := by rw [h1]; simp
      have hd2 : ((n : Int) == 0) = true := by rw [h2]; rfl
      have HR : Hid (cmpO x y = (k : Int) - n) := Lib.hid (by rw [HE.out, if_pos (Or.inr h2)])
      clear h1 h2 hnn hkk
      go_wp2
      go_ret
      exact ⟨by rw [HR.out]; rfl, B⟩
    · have hd1 : ((n : Int) != (k : Int)) = false := by rw [h1]; simp
      have hd2 : ((n : Int) == 0) = false := beq_eq_false_iff_ne.2 (by omega)
      have HR : Hid (cmpO x y = cmpM (firstM (lvO x)).1 (firstM (lvO x)).2 (firstM (lvO y)).1 (firstM (lvO y)).2) := Lib.hid (by rw [HE.out, if_neg (by omega)])
      have hx0 : lvO x ≠ [] := fun h => by rw [h] at hnn; exact h2 hnn.symm
      have hy0 : lvO y ≠ [] := fun h => by rw [h] at hkk; simp at hkk; omega
      have HMA := Lib.hid (fun (w : World) h => minM_any (.slice A n ca) (lvO x) w h (by omega) hx0)
      have HMB := Lib.hid (fun (w : World) h => minM_any (.slice A' k cb) (lvO y) w h (by omega) hy0)
      clear h1 h2 hnn hkk hx0 hy0
      go_wp2_with fail
      refine (HMA.out W2 HVA.out).mono ?_
      rintro e W3 ⟨rfl, hb⟩
      replace HVB := Lib.hid (keeps_mems _ _ _ _ _ _ HVB.out hb hb.size)
      replace B := B.trans (hb.mono B.size)
      clear hb
      go_wp2_with fail
      refine (HMB.out W3 HVB.out).mono ?_
      rintro e W4 ⟨rfl, hb⟩
      replace B := B.trans (hb.mono B.size)
      clear hb
      go_wp2_with fail
      refine (cmpM_any _ _ _ _ W4).mono ?_
      rintro e W5 ⟨rfl, hb⟩
      replace B := B.trans (hb.mono B.size)
      clear hb
      go_wp2
      go_ret
      exact ⟨by rw [HR.out]; rfl, B⟩
  · have hd1 : ((n : Int) != (k : Int)) = true := by simp; omega
    have HR : Hid (cmpO x y = (k : Int) - n) := Lib.hid (by rw [HE.out, if_pos (Or.inl h1)])
    clear h1 hnn hkk
    go_wp2
    go_ret
    exact ⟨by rw [HR.out]; rfl, B⟩

end Go.Proofs.Ytkmlnglmecjmeaa
