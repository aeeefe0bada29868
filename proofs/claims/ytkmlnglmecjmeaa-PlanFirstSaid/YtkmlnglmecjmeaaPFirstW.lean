import Derived.Test.YtkmlnglmecjmeaaAwake15
import Derived.Test.YtkmlnglmecjmeaaPhaseA
import Derived.Test.YtkmlnglmecjmeaaTreeR
/- lodgelaw15.PlanFirst answers true, whatever slice of members and number come in, and leaves memory below as it was. No condition. -/
namespace Go.Proofs.Ytkmlnglmecjmeaa
open Go Go.RowKit
set_option linter.unusedVariables false

abbrev newH (m : Int × Int) : FH := ⟨m, (0, 0, 0), (none, 0, 0), (0, 0, 0), (none, 0, 0), false⟩
theorem each_new (n : Nat) (w : World) (ms : List (Int × Int)) : EachF n w (ms.map newH) (ms.map newF) := by
  refine ⟨by simp, fun i h f h1 h2 => ?_⟩
  rw [List.getElem?_map] at h1 h2
  cases hm : ms[i]? with
  | none => rw [hm] at h1; cases h1
  | some m =>
    rw [hm] at h1 h2
    simp only [Option.map_some, Option.some.injEq] at h1 h2
    subst h1 h2
    exact ⟨rfl, rfl, rfl, none, 0, rfl, Nat.le_refl _, Nat.zero_le _, fun _ => rfl, fun h => absurd h (Nat.lt_irrefl 0)⟩
theorem new_step (ms : List (Int × Int)) (k : Nat) (h : k < ms.length) : (ms.take (k + 1)).map newH = (ms.take k).map newH ++ [newH ms[k]] := by
  rw [List.take_succ_eq_append_getElem h, List.map_append]
  rfl
def goodK (ms : List (Int × Int)) (k : Nat) : Prop := (∀ m ∈ ms.take k, okM m.1 m.2 = true) ∧ (ms.take k).Nodup
theorem good_step {ms : List (Int × Int)} {k : Nat} (h : k < ms.length) (hg : goodK ms k) (h1 : okM ms[k].1 ms[k].2 = true) (h2 : ms[k] ∉ ms.take k) : goodK ms (k + 1) := by
  unfold goodK
  rw [List.take_succ_eq_append_getElem h]
  refine ⟨fun m hm => ?_, nodup_snoc hg.2 h2⟩
  rcases List.mem_append.1 hm with h3 | h3
  · exact hg.1 m h3
  · simp at h3; subst h3; exact h1
set_option maxRecDepth 100000 in
set_option maxHeartbeats 16000000 in
theorem planFirst_walk (A : Option Addr) (la ca : Nat) (n : Int) (w : World) (h : ∃ ms, Mems w.heap.size w ms [.slice A la ca]) (hn : (Lit.int .u8 n).wf = true) :
    Calls Try.prog 3 #[.slice A la ca, .int .u8 n] w fun e w' => e = .returned (.bool true) ∧ Below w.heap.size w w' := by
  have hx : 0 ≤ n ∧ n ≤ 255 := by simpa [Lit.wf, IntKind.min, IntKind.max, IntKind.signed, IntKind.bits] using hn
  obtain ⟨ms, hm⟩ := h
  have HX := Lib.hid hm
  obtain ⟨_, _, e, hlc, hcm, hpp⟩ := mems_at hm
  simp only [Value.slice.injEq] at e
  obtain ⟨rfl, hla, rfl⟩ := e
  have hc1 : ca ≤ 9223372036854775807 := Nat.le_trans hcm (by decide)
  subst hla
  have HP := Lib.hid hpp
  clear hm hcm hpp
  have B : Below w.heap.size w w := Below.refl _ _
  go_enter Try.func3, Try.ntmps3
  by_cases h10 : 10 < ms.length
  · have hd : decide ((10 : Int) < (ms.length : Int)) = true := decide_eq_true (by omega)
    go_wp2_with fail
    refine (awake15_any w).mono ?_
    rintro e W9 ⟨rfl, B9⟩
    go_wp2
    go_ret
    exact ⟨rfl, B.trans (B9.mono B.size)⟩
  · have hd : decide ((10 : Int) < (ms.length : Int)) = false := decide_eq_false (by omega)
    by_cases h0 : ms.length = 0
    · have hd0 : ((ms.length : Int) == 0) = true := beq_iff_eq.2 (by omega)
      go_wp2_with fail
      refine (awake15_any w).mono ?_
      rintro e W9 ⟨rfl, B9⟩
      go_wp2
      go_ret
      exact ⟨rfl, B.trans (B9.mono B.size)⟩
    · have hd0 : ((ms.length : Int) == 0) = false := beq_eq_false_iff_ne.2 (by omega)
      have hn10 : ms.length ≤ 10 := by omega
      go_wp2_with fail
      clear hd hd0
      go_loopw [4, 5, 6] (fun _ s i wr => ∃ (k : Nat) (wq : World) (uq : Value), wq = wr ∧ uq = s ∧ k ≤ ms.length ∧ i = .int .i64 (k : Int) ∧ wr.ownsRow w.heap.size 36 11 s ((ms.take k).map newH).length (((ms.take k).map newH).flatMap fhC) ∧ Hid (goodK ms k) ∧ Below w.heap.size w wr) (fun _ _ i _ => ms.length - (intOf i).toNat)
      case atStart => exact ⟨0, _, _, rfl, rfl, Nat.zero_le _, rfl, World.ownsRow_nil _ _ _ _, Lib.hid ⟨by simp, by simp⟩, B⟩
      case round =>
        clear B
        obtain ⟨k, wr, s, rfl, rfl, hk, rfl, hown, HG, B⟩ := hrel
        by_cases hlt : k < ms.length
        · have hdk : decide (k < ms.length) = true := decide_eq_true hlt
          have hi : (k : Int) < (ms.length : Int) := by omega
          have hge : (0 : Int) ≤ (k : Int) := by omega
          obtain ⟨g, off, rfl, hbn, hc0, hc1⟩ := HP.out k hlt
          have k0 := (B.cell (p := ⟨g, off + k * 2, none⟩) hbn).trans hc0
          have k1 := (B.cell (p := ⟨g, off + k * 2 + 1, none⟩) hbn).trans hc1
          have hgr : g < wr.heap.size := Nat.lt_of_lt_of_le hbn B.size
          have HX := Lib.hid (keeps_mems _ _ _ _ _ _ HX.out B B.size)
          obtain ⟨AC, hrC, hSC⟩ := mems_to HX.out rfl hlc k hk
          have HC := Lib.hid hSC
          have HST := Lib.hid (new_step ms k hlt)
          have HGS := Lib.hid (fun h1 h2 => good_step hlt HG.out h1 h2)
          obtain ⟨⟨x, y⟩, hb⟩ : ∃ b, ms[k] = b := ⟨_, rfl⟩
          rw [hb] at k0 k1 HST HGS
          clear hb hc0 hc1 hSC
          go_wp2_with fail
          by_cases hok : okM x y = true
          · by_cases hhas' : (x, y) ∈ ms.take k
            · have hhas : decide ((x, y) ∈ ms.take k) = true := decide_eq_true hhas'
              clear hhas'
              refine wp_region_results (fun r i => ([.slice (some ⟨g, off, none⟩) ms.length ca, .int .i64 (k : Int), .pointer (some ⟨g, off + k * 2, none⟩), .agg #[.int .i64 x, .int .i64 y], .bool true, .bool false, .bool false, .slice (some ⟨g, off, none⟩) ms.length ca, .int .i64 (k : Int), .slice AC k ca, .slice (some ⟨g, off, none⟩) ms.length ca, .int .i64 (k : Int), .pointer (some ⟨g, off + k * 2, none⟩), .agg #[.int .i64 x, .int .i64 y], .bool true, .bool true] : List Value).getD i undef) [4, 14] [0, 0, 0, 0, 0, 1, 1, 1, 1, 1, 1, 1, 1, 1, 1, 2] (fun r q w' => (Below wr.heap.size wr w')) (by kernel_rfl) (by kernel_rfl) (fun r => ⟨rfl, rfl, rfl, Nat.le_refl _, fun _ _ => rfl⟩) ?_ ?_
              · refine ObsR_of_ends (by kernel_rfl) ?_
                intro r Fr hEA
                refine ⟨?_, ?_, ?_, ?_, ?_, ?_, ?_, ?_, ?_, ?_, ?_, ?_, ?_, ?_, ?_, ?_, trivial⟩
                · exact obR_move _ rfl (want_none rfl) (by kernel_rfl) (eval_out hEA (d := 0) (by kernel_rfl))
                · exact obR_move _ rfl (want_none rfl) (by kernel_rfl) (eval_out hEA (d := 6) (by kernel_rfl))
                · refine obR_val (want_none rfl) (by kernel_rfl) (fun ph w' hp hpm hw => ?_)
                  have e26 : Fr.tmps[26]? = some (.slice (some ⟨g, off, none⟩) ms.length ca) := hEA.dst 0 _ 26 rfl rfl; have e27 : Fr.tmps[27]? = some (.int .i64 (k : Int)) := hEA.dst 1 _ 27 rfl rfl; simp [execOp, e26, e27, hi, hge, go_sem]
                · refine obR_val (want_none rfl) (by kernel_rfl) (fun ph w' hp hpm hw => ?_)
                  have hc0 := (hw.cell (p := ⟨g, off + k * 2, none⟩) hgr).trans k0
                  have hc1 := (hw.cell (p := ⟨g, off + k * 2 + 1, none⟩) hgr).trans k1
                  have e28 : Fr.tmps[28]? = some (.pointer (some ⟨g, off + k * 2, none⟩)) := hEA.dst 2 _ 28 rfl rfl; simp [execOp, e28, hc0, hc1, go_sem]
                · refine obR_call (q := 0) (f := 6) (args := #[.agg #[.int .i64 x, .int .i64 y]]) (want_none rfl) (by kernel_rfl) (fun w' => by have e29 : Fr.tmps[29]? = some (.agg #[.int .i64 x, .int .i64 y]) := hEA.dst 3 _ 29 rfl rfl; simp [e29, go_sem]) ?_
                  intro w' hw
                  refine ((show Calls _ _ _ _ (fun e W' => e = .returned (.bool true) ∧ Below w'.heap.size w' W') from by have := refMright_any x y w'; rwa [hok] at this)).mono ?_
                  rintro e w2 ⟨rfl, hb⟩
                  exact ⟨_, rfl, fun r' hr hv => ⟨rfl, hw.trans (hb.mono hw.size)⟩⟩
                · refine obR_val (want_none rfl) (by kernel_rfl) (fun ph w' hp hpm hw => ?_)
                  have e30 : Fr.tmps[30]? = some (.bool true) := hEA.dst 4 _ 30 rfl rfl; simp [execOp, e30, go_sem]
                · exact obR_move _ rfl (want_none rfl) (by kernel_rfl) (eval_dst hEA (j := 5) rfl rfl)
                · exact obR_move _ rfl (want_is hEA (g := 6) (x := false) (b := false) rfl rfl rfl rfl) (by kernel_rfl) (eval_out hEA (d := 0) (by kernel_rfl))
                · exact obR_move _ rfl (want_is hEA (g := 6) (x := false) (b := false) rfl rfl rfl rfl) (by kernel_rfl) (eval_out hEA (d := 6) (by kernel_rfl))
                · refine obR_val (want_is hEA (g := 6) (x := false) (b := false) rfl rfl rfl rfl) (by kernel_rfl) (fun ph w' hp hpm hw => ?_)
                  have e33 : Fr.tmps[33]? = some (.slice (some ⟨g, off, none⟩) ms.length ca) := hEA.dst 7 _ 33 rfl rfl; have e34 : Fr.tmps[34]? = some (.int .i64 (k : Int)) := hEA.dst 8 _ 34 rfl rfl; simp [execOp, e33, e34, hrC, go_sem]
                · exact obR_move _ rfl (want_is hEA (g := 6) (x := false) (b := false) rfl rfl rfl rfl) (by kernel_rfl) (eval_out hEA (d := 0) (by kernel_rfl))
                · exact obR_move _ rfl (want_is hEA (g := 6) (x := false) (b := false) rfl rfl rfl rfl) (by kernel_rfl) (eval_out hEA (d := 6) (by kernel_rfl))
                · refine obR_val (want_is hEA (g := 6) (x := false) (b := false) rfl rfl rfl rfl) (by kernel_rfl) (fun ph w' hp hpm hw => ?_)
                  have e36 : Fr.tmps[36]? = some (.slice (some ⟨g, off, none⟩) ms.length ca) := hEA.dst 10 _ 36 rfl rfl; have e37 : Fr.tmps[37]? = some (.int .i64 (k : Int)) := hEA.dst 11 _ 37 rfl rfl; simp [execOp, e36, e37, hi, hge, go_sem]
                · refine obR_val (want_is hEA (g := 6) (x := false) (b := false) rfl rfl rfl rfl) (by kernel_rfl) (fun ph w' hp hpm hw => ?_)
                  have hc0 := (hw.cell (p := ⟨g, off + k * 2, none⟩) hgr).trans k0
                  have hc1 := (hw.cell (p := ⟨g, off + k * 2 + 1, none⟩) hgr).trans k1
                  have e38 : Fr.tmps[38]? = some (.pointer (some ⟨g, off + k * 2, none⟩)) := hEA.dst 12 _ 38 rfl rfl; simp [execOp, e38, hc0, hc1, go_sem]
                · refine obR_call (q := 1) (f := 7) (args := #[.slice AC k ca, .agg #[.int .i64 x, .int .i64 y]]) (want_is hEA (g := 6) (x := false) (b := false) rfl rfl rfl rfl) (by kernel_rfl) (fun w' => by have e35 : Fr.tmps[35]? = some (.slice AC k ca) := hEA.dst 9 _ 35 rfl rfl; have e39 : Fr.tmps[39]? = some (.agg #[.int .i64 x, .int .i64 y]) := hEA.dst 13 _ 39 rfl rfl; simp [e35, e39, go_sem]) ?_
                  intro w' hw
                  refine ((show Calls _ _ _ _ (fun e W' => e = .returned (.bool true) ∧ Below w'.heap.size w' W') from by have := refHas_any _ (ms.take k) x y w' (keeps_mems _ _ _ _ _ _ HC.out hw hw.size); rwa [hhas] at this)).mono ?_
                  rintro e w2 ⟨rfl, hb⟩
                  exact ⟨_, rfl, fun r' hr hv => ⟨rfl, hw.trans (hb.mono hw.size)⟩⟩
                · refine obR_val (want_none rfl) (by kernel_rfl) (fun ph w' hp hpm hw => ?_)
                  have e32 : Fr.tmps[32]? = some (.bool false) := hEA.dst 6 _ 32 rfl rfl; have e40 : Fr.tmps[40]? = some (.bool true) := hEA.dst 14 _ 40 rfl rfl; simp [execOp, e32, e40, go_sem]
              · intro r w' hw
                simp only [laid, Act.put, List.setIfInBounds_toArray, List.set_cons_succ, List.set_cons_zero, List.getD_cons_succ, List.getD_cons_zero, Nat.zero_add, Nat.reduceAdd]
                obtain ⟨w2, hw2⟩ : ∃ w2, w' = w2 := ⟨_, rfl⟩
                rw [hw2] at hw
                try rw [hw2]
                clear hw2
                have B2 := B.trans (hw.mono B.size)
                clear hw B k0 k1 HX HC hown hrC
                go_wp2_with fail
                refine (awake15_any w2).mono ?_
                rintro e W9 ⟨rfl, B9⟩
                go_wp2
                go_ret
                exact ⟨rfl, B2.trans (B9.mono B2.size)⟩
            · have hhas : decide ((x, y) ∈ ms.take k) = false := decide_eq_false hhas'
              clear hhas'
              refine wp_region_results (fun r i => ([.slice (some ⟨g, off, none⟩) ms.length ca, .int .i64 (k : Int), .pointer (some ⟨g, off + k * 2, none⟩), .agg #[.int .i64 x, .int .i64 y], .bool true, .bool false, .bool false, .slice (some ⟨g, off, none⟩) ms.length ca, .int .i64 (k : Int), .slice AC k ca, .slice (some ⟨g, off, none⟩) ms.length ca, .int .i64 (k : Int), .pointer (some ⟨g, off + k * 2, none⟩), .agg #[.int .i64 x, .int .i64 y], .bool false, .bool false] : List Value).getD i undef) [4, 14] [0, 0, 0, 0, 0, 1, 1, 1, 1, 1, 1, 1, 1, 1, 1, 2] (fun r q w' => (Below wr.heap.size wr w')) (by kernel_rfl) (by kernel_rfl) (fun r => ⟨rfl, rfl, rfl, Nat.le_refl _, fun _ _ => rfl⟩) ?_ ?_
              · refine ObsR_of_ends (by kernel_rfl) ?_
                intro r Fr hEA
                refine ⟨?_, ?_, ?_, ?_, ?_, ?_, ?_, ?_, ?_, ?_, ?_, ?_, ?_, ?_, ?_, ?_, trivial⟩
                · exact obR_move _ rfl (want_none rfl) (by kernel_rfl) (eval_out hEA (d := 0) (by kernel_rfl))
                · exact obR_move _ rfl (want_none rfl) (by kernel_rfl) (eval_out hEA (d := 6) (by kernel_rfl))
                · refine obR_val (want_none rfl) (by kernel_rfl) (fun ph w' hp hpm hw => ?_)
                  have e26 : Fr.tmps[26]? = some (.slice (some ⟨g, off, none⟩) ms.length ca) := hEA.dst 0 _ 26 rfl rfl; have e27 : Fr.tmps[27]? = some (.int .i64 (k : Int)) := hEA.dst 1 _ 27 rfl rfl; simp [execOp, e26, e27, hi, hge, go_sem]
                · refine obR_val (want_none rfl) (by kernel_rfl) (fun ph w' hp hpm hw => ?_)
                  have hc0 := (hw.cell (p := ⟨g, off + k * 2, none⟩) hgr).trans k0
                  have hc1 := (hw.cell (p := ⟨g, off + k * 2 + 1, none⟩) hgr).trans k1
                  have e28 : Fr.tmps[28]? = some (.pointer (some ⟨g, off + k * 2, none⟩)) := hEA.dst 2 _ 28 rfl rfl; simp [execOp, e28, hc0, hc1, go_sem]
                · refine obR_call (q := 0) (f := 6) (args := #[.agg #[.int .i64 x, .int .i64 y]]) (want_none rfl) (by kernel_rfl) (fun w' => by have e29 : Fr.tmps[29]? = some (.agg #[.int .i64 x, .int .i64 y]) := hEA.dst 3 _ 29 rfl rfl; simp [e29, go_sem]) ?_
                  intro w' hw
                  refine ((show Calls _ _ _ _ (fun e W' => e = .returned (.bool true) ∧ Below w'.heap.size w' W') from by have := refMright_any x y w'; rwa [hok] at this)).mono ?_
                  rintro e w2 ⟨rfl, hb⟩
                  exact ⟨_, rfl, fun r' hr hv => ⟨rfl, hw.trans (hb.mono hw.size)⟩⟩
                · refine obR_val (want_none rfl) (by kernel_rfl) (fun ph w' hp hpm hw => ?_)
                  have e30 : Fr.tmps[30]? = some (.bool true) := hEA.dst 4 _ 30 rfl rfl; simp [execOp, e30, go_sem]
                · exact obR_move _ rfl (want_none rfl) (by kernel_rfl) (eval_dst hEA (j := 5) rfl rfl)
                · exact obR_move _ rfl (want_is hEA (g := 6) (x := false) (b := false) rfl rfl rfl rfl) (by kernel_rfl) (eval_out hEA (d := 0) (by kernel_rfl))
                · exact obR_move _ rfl (want_is hEA (g := 6) (x := false) (b := false) rfl rfl rfl rfl) (by kernel_rfl) (eval_out hEA (d := 6) (by kernel_rfl))
                · refine obR_val (want_is hEA (g := 6) (x := false) (b := false) rfl rfl rfl rfl) (by kernel_rfl) (fun ph w' hp hpm hw => ?_)
                  have e33 : Fr.tmps[33]? = some (.slice (some ⟨g, off, none⟩) ms.length ca) := hEA.dst 7 _ 33 rfl rfl; have e34 : Fr.tmps[34]? = some (.int .i64 (k : Int)) := hEA.dst 8 _ 34 rfl rfl; simp [execOp, e33, e34, hrC, go_sem]
                · exact obR_move _ rfl (want_is hEA (g := 6) (x := false) (b := false) rfl rfl rfl rfl) (by kernel_rfl) (eval_out hEA (d := 0) (by kernel_rfl))
                · exact obR_move _ rfl (want_is hEA (g := 6) (x := false) (b := false) rfl rfl rfl rfl) (by kernel_rfl) (eval_out hEA (d := 6) (by kernel_rfl))
                · refine obR_val (want_is hEA (g := 6) (x := false) (b := false) rfl rfl rfl rfl) (by kernel_rfl) (fun ph w' hp hpm hw => ?_)
                  have e36 : Fr.tmps[36]? = some (.slice (some ⟨g, off, none⟩) ms.length ca) := hEA.dst 10 _ 36 rfl rfl; have e37 : Fr.tmps[37]? = some (.int .i64 (k : Int)) := hEA.dst 11 _ 37 rfl rfl; simp [execOp, e36, e37, hi, hge, go_sem]
                · refine obR_val (want_is hEA (g := 6) (x := false) (b := false) rfl rfl rfl rfl) (by kernel_rfl) (fun ph w' hp hpm hw => ?_)
                  have hc0 := (hw.cell (p := ⟨g, off + k * 2, none⟩) hgr).trans k0
                  have hc1 := (hw.cell (p := ⟨g, off + k * 2 + 1, none⟩) hgr).trans k1
                  have e38 : Fr.tmps[38]? = some (.pointer (some ⟨g, off + k * 2, none⟩)) := hEA.dst 12 _ 38 rfl rfl; simp [execOp, e38, hc0, hc1, go_sem]
                · refine obR_call (q := 1) (f := 7) (args := #[.slice AC k ca, .agg #[.int .i64 x, .int .i64 y]]) (want_is hEA (g := 6) (x := false) (b := false) rfl rfl rfl rfl) (by kernel_rfl) (fun w' => by have e35 : Fr.tmps[35]? = some (.slice AC k ca) := hEA.dst 9 _ 35 rfl rfl; have e39 : Fr.tmps[39]? = some (.agg #[.int .i64 x, .int .i64 y]) := hEA.dst 13 _ 39 rfl rfl; simp [e35, e39, go_sem]) ?_
                  intro w' hw
                  refine ((show Calls _ _ _ _ (fun e W' => e = .returned (.bool false) ∧ Below w'.heap.size w' W') from by have := refHas_any _ (ms.take k) x y w' (keeps_mems _ _ _ _ _ _ HC.out hw hw.size); rwa [hhas] at this)).mono ?_
                  rintro e w2 ⟨rfl, hb⟩
                  exact ⟨_, rfl, fun r' hr hv => ⟨rfl, hw.trans (hb.mono hw.size)⟩⟩
                · refine obR_val (want_none rfl) (by kernel_rfl) (fun ph w' hp hpm hw => ?_)
                  have e32 : Fr.tmps[32]? = some (.bool false) := hEA.dst 6 _ 32 rfl rfl; have e40 : Fr.tmps[40]? = some (.bool false) := hEA.dst 14 _ 40 rfl rfl; simp [execOp, e32, e40, go_sem]
              · intro r w' hw
                simp only [laid, Act.put, List.setIfInBounds_toArray, List.set_cons_succ, List.set_cons_zero, List.getD_cons_succ, List.getD_cons_zero, Nat.zero_add, Nat.reduceAdd]
                obtain ⟨w2, hw2⟩ : ∃ w2, w' = w2 := ⟨_, rfl⟩
                rw [hw2] at hw
                try rw [hw2]
                clear hw2
                have k0 := (hw.cell (p := ⟨g, off + k * 2, none⟩) hgr).trans k0
                have k1 := (hw.cell (p := ⟨g, off + k * 2 + 1, none⟩) hgr).trans k1
                have B2 := B.trans (hw.mono B.size)
                have hown2 := owns_below hown hw
                have HG2 := Lib.hid (HGS.out hok (of_decide_eq_false hhas))
                clear hw B hown hrC HX HC hok hhas HGS HG hgr
                go_wp2_with (at_builtin; refine append_fhs _ rfl _ _ rfl w.heap.size _ _ _ rfl (hown2.alloc _) _ _ _ rfl (one_fh _ (newH (x, y)) _ _ (by simp) _ rfl) ?c1 ?c2 ?_)
                case c1 => simp; omega
                case c2 => have := B2.size; simp; omega
                intro v' w' hown' hgr
                have B3 := (B2.alloc B2.size (.cells #[.int .i64 x, .int .i64 y, .int .i64 0, .int .i64 0, .int .i64 0, .slice none 0 0, .int .i64 0, .int .i64 0, .int .i64 0, .slice none 0 0, .bool false] 36)).grown hgr (by have := B2.size; simp; omega) (fun k hk => (hown2.lt k hk).1)
                have HO3 : Hid (w'.ownsRow w.heap.size 36 11 v' ((ms.take (k + 1)).map newH).length (((ms.take (k + 1)).map newH).flatMap fhC)) := Lib.hid (by rw [HST.out]; simpa [Nat.min_eq_left (Nat.le_of_lt hlt)] using hown')
                clear hown2 hown' hgr B2 k0 k1 HST
                go_wp2
                go_roundw
                case rel => exact ⟨k + 1, _, _, rfl, rfl, by omega, by go_num, HO3.out, HG2, B3⟩
                case measure => simp [intOf]; omega
          · replace hok : okM x y = false := by simpa using hok
            refine wp_region_results (fun r i => ([.slice (some ⟨g, off, none⟩) ms.length ca, .int .i64 (k : Int), .pointer (some ⟨g, off + k * 2, none⟩), .agg #[.int .i64 x, .int .i64 y], .bool false, .bool true, .bool true, undef, undef, undef, undef, undef, undef, undef, undef, .bool true] : List Value).getD i undef) [4] [0, 0, 0, 0, 0, 1, 1, 1, 1, 1, 1, 1, 1, 1, 1, 1] (fun r q w' => (Below wr.heap.size wr w')) (by kernel_rfl) (by kernel_rfl) (fun r => ⟨rfl, rfl, rfl, Nat.le_refl _, fun _ _ => rfl⟩) ?_ ?_
            · refine ObsR_of_ends (by kernel_rfl) ?_
              intro r Fr hEA
              refine ⟨?_, ?_, ?_, ?_, ?_, ?_, ?_, ?_, ?_, ?_, ?_, ?_, ?_, ?_, ?_, ?_, trivial⟩
              · exact obR_move _ rfl (want_none rfl) (by kernel_rfl) (eval_out hEA (d := 0) (by kernel_rfl))
              · exact obR_move _ rfl (want_none rfl) (by kernel_rfl) (eval_out hEA (d := 6) (by kernel_rfl))
              · refine obR_val (want_none rfl) (by kernel_rfl) (fun ph w' hp hpm hw => ?_)
                have e26 : Fr.tmps[26]? = some (.slice (some ⟨g, off, none⟩) ms.length ca) := hEA.dst 0 _ 26 rfl rfl; have e27 : Fr.tmps[27]? = some (.int .i64 (k : Int)) := hEA.dst 1 _ 27 rfl rfl; simp [execOp, e26, e27, hi, hge, go_sem]
              · refine obR_val (want_none rfl) (by kernel_rfl) (fun ph w' hp hpm hw => ?_)
                have hc0 := (hw.cell (p := ⟨g, off + k * 2, none⟩) hgr).trans k0
                have hc1 := (hw.cell (p := ⟨g, off + k * 2 + 1, none⟩) hgr).trans k1
                have e28 : Fr.tmps[28]? = some (.pointer (some ⟨g, off + k * 2, none⟩)) := hEA.dst 2 _ 28 rfl rfl; simp [execOp, e28, hc0, hc1, go_sem]
              · refine obR_call (q := 0) (f := 6) (args := #[.agg #[.int .i64 x, .int .i64 y]]) (want_none rfl) (by kernel_rfl) (fun w' => by have e29 : Fr.tmps[29]? = some (.agg #[.int .i64 x, .int .i64 y]) := hEA.dst 3 _ 29 rfl rfl; simp [e29, go_sem]) ?_
                intro w' hw
                refine ((show Calls _ _ _ _ (fun e W' => e = .returned (.bool false) ∧ Below w'.heap.size w' W') from by have := refMright_any x y w'; rwa [hok] at this)).mono ?_
                rintro e w2 ⟨rfl, hb⟩
                exact ⟨_, rfl, fun r' hr hv => ⟨rfl, hw.trans (hb.mono hw.size)⟩⟩
              · refine obR_val (want_none rfl) (by kernel_rfl) (fun ph w' hp hpm hw => ?_)
                have e30 : Fr.tmps[30]? = some (.bool false) := hEA.dst 4 _ 30 rfl rfl; simp [execOp, e30, go_sem]
              · exact obR_move _ rfl (want_none rfl) (by kernel_rfl) (eval_dst hEA (j := 5) rfl rfl)
              · exact obR_skip (want_is hEA (g := 6) (x := true) (b := false) rfl rfl rfl rfl) (by kernel_rfl) rfl
              · exact obR_skip (want_is hEA (g := 6) (x := true) (b := false) rfl rfl rfl rfl) (by kernel_rfl) rfl
              · exact obR_skip (want_is hEA (g := 6) (x := true) (b := false) rfl rfl rfl rfl) (by kernel_rfl) rfl
              · exact obR_skip (want_is hEA (g := 6) (x := true) (b := false) rfl rfl rfl rfl) (by kernel_rfl) rfl
              · exact obR_skip (want_is hEA (g := 6) (x := true) (b := false) rfl rfl rfl rfl) (by kernel_rfl) rfl
              · exact obR_skip (want_is hEA (g := 6) (x := true) (b := false) rfl rfl rfl rfl) (by kernel_rfl) rfl
              · exact obR_skip (want_is hEA (g := 6) (x := true) (b := false) rfl rfl rfl rfl) (by kernel_rfl) rfl
              · exact obR_skip (want_is hEA (g := 6) (x := true) (b := false) rfl rfl rfl rfl) (by kernel_rfl) rfl
              · refine obR_val (want_none rfl) (by kernel_rfl) (fun ph w' hp hpm hw => ?_)
                have e32 : Fr.tmps[32]? = some (.bool true) := hEA.dst 6 _ 32 rfl rfl; have e40 : Fr.tmps[40]? = some (undef) := hEA.dst 14 _ 40 rfl rfl; simp [execOp, e32, e40, go_sem]
            · intro r w' hw
              simp only [laid, Act.put, List.setIfInBounds_toArray, List.set_cons_succ, List.set_cons_zero, List.getD_cons_succ, List.getD_cons_zero, Nat.zero_add, Nat.reduceAdd]
              obtain ⟨w2, hw2⟩ : ∃ w2, w' = w2 := ⟨_, rfl⟩
              rw [hw2] at hw
              try rw [hw2]
              clear hw2
              have B2 := B.trans (hw.mono B.size)
              clear hw B k0 k1 HX HC hown hrC
              go_wp2_with fail
              refine (awake15_any w2).mono ?_
              rintro e W9 ⟨rfl, B9⟩
              go_wp2
              go_ret
              exact ⟨rfl, B2.trans (B9.mono B2.size)⟩
        · have hdk : decide (k < ms.length) = false := decide_eq_false hlt
          obtain rfl : k = ms.length := by omega
          have hkk : ms.take ms.length = ms := List.take_length
          rw [hkk] at hown
          have hgd : (∀ m ∈ ms, okM m.1 m.2 = true) ∧ ms.Nodup := by have := HG.out; unfold goodK at this; rwa [hkk] at this
          have HFF := Lib.hid (first_facts hgd.1 hgd.2 hn10)
          obtain ⟨Al, ls, cs, rfl⟩ : ∃ ao n' cap, s = Value.slice ao n' cap := by
            rcases hown.2 with ⟨hv, _⟩ | ⟨g, cap, cur, hv, _⟩
            · exact ⟨_, _, _, hv⟩
            · exact ⟨_, _, _, hv⟩
          have HL := Lib.hid (own_fhs hown)
          have HE0 := Lib.hid (fun n w => each_new n w ms)
          obtain ⟨kk, hkn⟩ : ∃ kk : Nat, n % (ms.length : Int) = (kk : Int) := ⟨(n % (ms.length : Int)).toNat, by have := Int.emod_nonneg n (show (ms.length : Int) ≠ 0 by omega); omega⟩
          have hkl : kk < ms.length := by have := Int.emod_lt_of_pos n (show (0 : Int) < (ms.length : Int) by omega); omega
          have hkt : Int.tmod n (ms.length : Int) = (kk : Int) := by rw [Int.tmod_eq_emod_of_nonneg hx.1]; exact hkn
          have hnz : (ms.length : Int) ≠ 0 := by omega
          have hwn : wrap64 n = n := by unfold wrap64; omega
          obtain ⟨_, _, e, hlcs, hccs⟩ := fhs_len HL.out ms.length (by simp)
          simp only [Value.slice.injEq] at e
          obtain ⟨rfl, rfl, rfl⟩ := e
          obtain ⟨AD, hrD, hSD⟩ := fhs_from HL.out (by simp) kk (by omega)
          obtain ⟨AC, hrC, hSC⟩ := fhs_to HL.out (by simp) hlcs kk (by omega)
          have HD := Lib.hid hSD
          have HC := Lib.hid hSC
          obtain ⟨K1, K2⟩ : okFs ((ms.map newF).drop kk ++ (ms.map newF).take kk) ∧ shapeO ((ms.map newF).drop kk ++ (ms.map newF).take kk) = shapeO (ms.map newF) := HFF.out.2.2.2.2.1 kk (by omega)
          have HK1 := Lib.hid K1
          have HK2 := Lib.hid K2
          have HE1 := Lib.hid (fun n w => ((each_new n w ms).drop kk).append ((each_new n w ms).take kk))
          obtain ⟨⟨x0, y0⟩, r0, hlv⟩ : ∃ m r, lvO (shapeO (ms.map newF)) = m :: r := by
            cases hl : lvO (shapeO (ms.map newF)) with
            | nil => have := HFF.out.2.2.2.1; rw [hl] at this; simp at this; omega
            | cons m r => exact ⟨m, r, rfl⟩
          obtain ⟨r1, hmb⟩ : ∃ r, membersO (ms.map newF) = (x0, y0) :: r := by
            have := HFF.out.2.2.2.2.2.1
            rw [hlv] at this
            cases hl : membersO (ms.map newF) with
            | nil => rw [hl] at this; cases this
            | cons m r => rw [hl] at this; simp at this; exact ⟨r, by rw [this]⟩
          have HLV := Lib.hid hlv
          have HMB := Lib.hid hmb
          have hr0 : r0.length + 1 = ms.length := by have := HFF.out.2.2.2.1; rw [hlv] at this; simpa using this
          have HR0 := Lib.hid hr0
          have hOK := HFF.out.1
          have hOT := HFF.out.2.1
          have HOK := Lib.hid hOK
          have HOT := Lib.hid hOT
          have HFL : Hid ((freshO (ms.map newF) (lvO (shapeO (ms.map newF)))).length = ms.length) := Lib.hid HFF.out.2.2.2.2.2.2
          have hsl : (spo (shapeO (ms.map newF))).length ≤ 1000000 := by have := (okT_parts hOT).1; omega
          obtain ⟨hs, hhs⟩ : ∃ hs, ms.map newH = hs := ⟨_, rfl⟩
          obtain ⟨fs, hfs⟩ : ∃ fs, ms.map newF = fs := ⟨_, rfl⟩
          have hhl : hs.length = ms.length := by rw [← hhs]; simp
          have HHL := Lib.hid hhl
          rw [hhs, hfs] at HE0 HE1
          rw [hhs] at HL HD HC
          rw [hfs] at HK1 HK2 HLV HMB HOK HOT HFL hsl
          clear hown HG hkk hgd hkn K1 K2 hlv hmb hhs hfs hSD hSC HFF hOK hOT hk hlt hhl hr0 hx
          go_wp2_with fail
          replace HX := Lib.hid (keeps_mems _ _ _ _ _ _ HX.out B B.size)
          refine (pShape_any _ hs fs wr HL.out (HE0.out _ _) HOK.out).mono ?_
          rintro e W1 ⟨vt, rfl, ht, hb⟩
          replace HX := Lib.hid (keeps_mems _ _ _ _ _ _ HX.out hb hb.size)
          replace HL := Lib.hid (keeps_fhs _ _ _ _ _ _ HL.out hb hb.size)
          replace HD := Lib.hid (keeps_fhs _ _ _ _ _ _ HD.out hb hb.size)
          replace HC := Lib.hid (keeps_fhs _ _ _ _ _ _ HC.out hb hb.size)
          replace B := B.trans (hb.mono B.size)
          clear hb
          have HT := Lib.hid ht
          clear ht
          go_wp2_with fail
          refine wp_region_results (fun r i => ([(r 0), .slice Al ms.length cs, .int .i64 (kk : Int), .slice AD (ms.length - kk) (cs - kk), (r 1), .slice Al ms.length cs, .int .i64 (kk : Int), .slice AC kk cs, (r 2), (r 3), (r 3)] : List Value).getD i undef) [0, 4, 8, 9] [0, 0, 0, 0, 1, 0, 0, 0, 2, 3, 4] (fun r q w' => Below W1.heap.size W1 w' ∧ (q = 1 → w'.ownsRow W1.heap.size 36 11 (r 0) 0 []) ∧ (q = 2 → w'.ownsRow W1.heap.size 36 11 (r 1) (0 + (hs.drop kk).length) ([] ++ (hs.drop kk).flatMap fhC)) ∧ (q = 3 → w'.ownsRow W1.heap.size 36 11 (r 2) (0 + (hs.drop kk).length + (hs.take kk).length) ([] ++ (hs.drop kk).flatMap fhC ++ (hs.take kk).flatMap fhC)) ∧ (q = 4 → Spots w'.heap.size w' (spo (shapeO fs)) [r 3])) (by kernel_rfl) (by kernel_rfl) (fun r => ⟨⟨rfl, rfl, rfl, Nat.le_refl _, fun _ _ => rfl⟩, (by intro h; cases h), (by intro h; cases h), (by intro h; cases h), (by intro h; cases h)⟩) ?_ ?_
          · refine ObsR_of_ends (by kernel_rfl) ?_
            intro r Fr hEA
            refine ⟨?_, ?_, ?_, ?_, ?_, ?_, ?_, ?_, ?_, ?_, ?_, trivial⟩
            · refine obR_make (q := 0) (want_none rfl) (by kernel_rfl) (fun w' hw => ?_)
              
              exact ⟨.slice (some ⟨w'.heap.size, 0, none⟩) 0 0, w'.alloc (.cells #[] 36), by simp [execOp, go_sem], fun r' hr hv => ⟨hv, hw.1.alloc hw.1.size _, fun _ => by rw [hv]; exact owns_empty w' _ 11 hw.1.size, (by intro h; cases h), (by intro h; cases h), (by intro h; cases h)⟩⟩
            · exact obR_move _ rfl (want_none rfl) (by kernel_rfl) (eval_out hEA (d := 5) (by kernel_rfl))
            · exact obR_move _ rfl (want_none rfl) (by kernel_rfl) (eval_out hEA (d := 7) (by kernel_rfl))
            · refine obR_val (want_none rfl) (by kernel_rfl) (fun ph w' hp hpm hw => ?_)
              have e59 : Fr.tmps[59]? = some (.slice Al ms.length cs) := hEA.dst 1 _ 59 rfl rfl; have e60 : Fr.tmps[60]? = some (.int .i64 (kk : Int)) := hEA.dst 2 _ 60 rfl rfl; simp [execOp, e59, e60, hrD, go_sem]
            · refine obR_make (q := 1) (want_none rfl) (by kernel_rfl) (fun w' hw => ?_)
              have e58 : Fr.tmps[58]? = some ((r 0)) := hEA.dst 0 _ 58 rfl rfl; have e61 : Fr.tmps[61]? = some (.slice AD (ms.length - kk) (cs - kk)) := hEA.dst 3 _ 61 rfl rfl; 
              exact run_append_fhs_then w' (.tmp 58) (.tmp 61) rfl W1.heap.size (r 0) 0 [] (eval_dst hEA (j := 0) rfl rfl) (hw.2.1 rfl) w'.heap.size _ (hs.drop kk) (eval_dst hEA (j := 3) rfl rfl) (keeps_fhs _ _ _ _ _ _ HD.out hw.1 hw.1.size) (by have := HHL.out; simp only [List.length_drop]; omega) hw.1.size (fun v' w3 hown hg r' hr hv => ⟨hv, hw.1.grown hg hw.1.size (fun k hk => ((hw.2.1 rfl).lt k hk).1), (by intro h; cases h), (fun _ => by rw [hv]; exact hown), (by intro h; cases h), (by intro h; cases h)⟩)
            · exact obR_move _ rfl (want_none rfl) (by kernel_rfl) (eval_out hEA (d := 5) (by kernel_rfl))
            · exact obR_move _ rfl (want_none rfl) (by kernel_rfl) (eval_out hEA (d := 7) (by kernel_rfl))
            · refine obR_val (want_none rfl) (by kernel_rfl) (fun ph w' hp hpm hw => ?_)
              have e63 : Fr.tmps[63]? = some (.slice Al ms.length cs) := hEA.dst 5 _ 63 rfl rfl; have e64 : Fr.tmps[64]? = some (.int .i64 (kk : Int)) := hEA.dst 6 _ 64 rfl rfl; simp [execOp, e63, e64, hrC, go_sem]
            · refine obR_make (q := 2) (want_none rfl) (by kernel_rfl) (fun w' hw => ?_)
              have e62 : Fr.tmps[62]? = some ((r 1)) := hEA.dst 4 _ 62 rfl rfl; have e65 : Fr.tmps[65]? = some (.slice AC kk cs) := hEA.dst 7 _ 65 rfl rfl; 
              exact run_append_fhs_then w' (.tmp 62) (.tmp 65) rfl W1.heap.size (r 1) _ _ (eval_dst hEA (j := 4) rfl rfl) (hw.2.2.1 rfl) w'.heap.size _ (hs.take kk) (eval_dst hEA (j := 7) rfl rfl) (keeps_fhs _ _ _ _ _ _ HC.out hw.1 hw.1.size) (by have := HHL.out; simp only [List.length_drop, List.length_take]; omega) hw.1.size (fun v' w3 hown hg r' hr hv => ⟨hv, hw.1.grown hg hw.1.size (fun k hk => ((hw.2.2.1 rfl).lt k hk).1), (by intro h; cases h), (by intro h; cases h), (fun _ => by rw [hv]; exact hown), (by intro h; cases h)⟩)
            · refine obR_call (q := 3) (f := 8) (args := #[(r 2)]) (want_none rfl) (by kernel_rfl) (fun w' => by have e66 : Fr.tmps[66]? = some ((r 2)) := hEA.dst 8 _ 66 rfl rfl; simp [e66, go_sem]) ?_
              intro w' hw
              have h5 := hw.2.2.2.1 rfl
              rw [Nat.zero_add, List.nil_append, ← List.length_append, ← List.flatMap_append] at h5
              refine (pShape_any (r 2) ((hs.drop kk) ++ (hs.take kk)) (fs.drop kk ++ fs.take kk) w' (own_fhs h5) (HE1.out _ _) HK1.out).mono ?_
              rintro e w2 ⟨v', rfl, hs9, hb⟩
              exact ⟨_, rfl, fun r' hr hv => ⟨hv, hw.1.trans (hb.mono hw.1.size), (by intro h; cases h), (by intro h; cases h), (by intro h; cases h), fun _ => by rw [hv]; have := hs9; rwa [HK2.out] at this⟩⟩
            · refine obR_val (want_none rfl) (by kernel_rfl) (fun ph w' hp hpm hw => ?_)
              have e67 : Fr.tmps[67]? = some ((r 3)) := hEA.dst 9 _ 67 rfl rfl; simp [execOp, e67, go_sem]
          · intro r w' hw
            simp only [laid, Act.put, List.setIfInBounds_toArray, List.set_cons_succ, List.set_cons_zero, List.getD_cons_succ, List.getD_cons_zero, Nat.zero_add, Nat.reduceAdd]
            obtain ⟨w2, hw2⟩ : ∃ w2, w' = w2 := ⟨_, rfl⟩
            rw [hw2] at hw
            try rw [hw2]
            clear hw2
            have ha := hw.2.2.2.2 rfl
            have hb := hw.1
            obtain ⟨va, hva⟩ : ∃ v, r 3 = v := ⟨_, rfl⟩
            rw [hva] at ha
            rw [hva]
            clear hw hva
            replace HX := Lib.hid (keeps_mems _ _ _ _ _ _ HX.out hb hb.size)
            replace HL := Lib.hid (keeps_fhs _ _ _ _ _ _ HL.out hb hb.size)
            replace HT := Lib.hid (keeps_spots _ _ _ _ _ _ HT.out hb hb.size)
            replace B := B.trans (hb.mono B.size)
            clear hb
            have HA := Lib.hid ha
            clear ha
            go_wp2_with fail
            refine (refLeaves_any vt _ w2 HT.out hsl).mono ?_
            rintro e W2 ⟨vs, rfl, hs9, hb⟩
            replace HX := Lib.hid (keeps_mems _ _ _ _ _ _ HX.out hb hb.size)
            replace HL := Lib.hid (keeps_fhs _ _ _ _ _ _ HL.out hb hb.size)
            replace HT := Lib.hid (keeps_spots _ _ _ _ _ _ HT.out hb hb.size)
            replace HA := Lib.hid (keeps_spots _ _ _ _ _ _ HA.out hb hb.size)
            replace B := B.trans (hb.mono B.size)
            clear hb
            replace hs9 : Mems W2.heap.size W2 (lvO (shapeO fs)) [vs] := hs9
            rw [HLV.out] at hs9
            have HS := Lib.hid hs9
            clear hs9
            obtain ⟨gs, os, c5, rfl, hgs, f0, f1⟩ := mems_first HS.out
            rw [HR0.out]
            simp only at f0 f1
            go_wp2_with fail
            have hpos : 0 < ms.length := by omega
            refine wp_region_results (fun r i => ([.bool true, .bool true, vt, va, .bool true, .bool true, .bool true, .slice (some ⟨gs, os, none⟩) ms.length c5, .int .i64 (ms.length : Int), .slice A ms.length ca, .int .i64 (ms.length : Int), .bool true, .bool true, .bool true, .slice (some ⟨gs, os, none⟩) ms.length c5, .pointer (some ⟨gs, os, none⟩), .agg #[.int .i64 x0, .int .i64 y0], .slice Al ms.length cs, (r 2), (firstPtr (r 2)), .agg #[.int .i64 x0, .int .i64 y0], .bool true, .bool true, .bool true, .slice Al ms.length cs, vt, (r 3), .int .i64 (ms.length : Int), .slice A ms.length ca, .int .i64 (ms.length : Int), .bool true, .bool true, .bool true] : List Value).getD i undef) [0, 4, 18, 26] [0, 1, 1, 1, 1, 2, 2, 2, 2, 2, 2, 2, 2, 2, 2, 2, 2, 2, 2, 3, 3, 3, 3, 3, 3, 3, 3, 4, 3, 3, 4, 4, 4] (fun r q w' => (Below W2.heap.size W2 w') ∧ (2 < q → Mems w'.heap.size w' ((x0, y0) :: r1) [(r 2)]) ∧ (3 < q → Mems w'.heap.size w' (freshO fs (lvO (shapeO fs))) [(r 3)])) (by kernel_rfl) (by kernel_rfl) (fun r => ⟨⟨rfl, rfl, rfl, Nat.le_refl _, fun _ _ => rfl⟩, fun h => absurd h (Nat.not_lt_zero _), fun h => absurd h (Nat.not_lt_zero _)⟩) ?_ ?_
            · refine ObsR_of_ends (by kernel_rfl) ?_
              intro r Fr hEA
              refine ⟨?_, ?_, ?_, ?_, ?_, ?_, ?_, ?_, ?_, ?_, ?_, ?_, ?_, ?_, ?_, ?_, ?_, ?_, ?_, ?_, ?_, ?_, ?_, ?_, ?_, ?_, ?_, ?_, ?_, ?_, ?_, ?_, ?_, trivial⟩
              · refine obR_call (q := 0) (f := 5) (args := #[]) (want_none rfl) (by kernel_rfl) (fun w' => by simp [go_sem]) ?_
                intro w' hw
                refine (awake15_any w').mono ?_
                rintro e w2 ⟨rfl, hb⟩
                exact ⟨_, rfl, fun r' hr hv => ⟨rfl, ⟨hw.1.trans (hb.mono hw.1.size), fun h => absurd h (by decide), fun h => absurd h (by decide)⟩⟩⟩
              · exact obR_move _ rfl (want_none rfl) (by kernel_rfl) (eval_dst hEA (j := 0) rfl rfl)
              · exact obR_move _ rfl (want_is hEA (g := 1) (x := true) (b := true) rfl rfl rfl rfl) (by kernel_rfl) (eval_out hEA (d := 8) (by kernel_rfl))
              · exact obR_move _ rfl (want_is hEA (g := 1) (x := true) (b := true) rfl rfl rfl rfl) (by kernel_rfl) (eval_out hEA (d := 9) (by kernel_rfl))
              · refine obR_call (q := 1) (f := 10) (args := #[vt, va]) (want_is hEA (g := 1) (x := true) (b := true) rfl rfl rfl rfl) (by kernel_rfl) (fun w' => by have e72 : Fr.tmps[72]? = some (vt) := hEA.dst 2 _ 72 rfl rfl; have e73 : Fr.tmps[73]? = some (va) := hEA.dst 3 _ 73 rfl rfl; simp [e72, e73, go_sem]) ?_
                intro w' hw
                refine ((show Calls _ _ _ _ (fun e W' => e = .returned (.bool true) ∧ Below w'.heap.size w' W') from by have := sameS_any vt va (spo (shapeO fs)) (spo (shapeO fs)) w' (keeps_spots _ _ _ _ _ _ HT.out hw.1 hw.1.size) (keeps_spots _ _ _ _ _ _ HA.out hw.1 hw.1.size) hsl; rwa [show decide ((spo (shapeO fs)) = (spo (shapeO fs))) = true from decide_eq_true rfl] at this)).mono ?_
                rintro e w2 ⟨rfl, hb⟩
                exact ⟨_, rfl, fun r' hr hv => ⟨rfl, ⟨hw.1.trans (hb.mono hw.1.size), fun h => absurd h (by decide), fun h => absurd h (by decide)⟩⟩⟩
              · refine obR_val (want_none rfl) (by kernel_rfl) (fun ph w' hp hpm hw => ?_)
                have e71 : Fr.tmps[71]? = some (.bool true) := hEA.dst 1 _ 71 rfl rfl; have e74 : Fr.tmps[74]? = some (.bool true) := hEA.dst 4 _ 74 rfl rfl; simp [execOp, e71, e74, go_sem]
              · exact obR_move _ rfl (want_none rfl) (by kernel_rfl) (eval_dst hEA (j := 5) rfl rfl)
              · exact obR_move _ rfl (want_is hEA (g := 6) (x := true) (b := true) rfl rfl rfl rfl) (by kernel_rfl) (eval_out hEA (d := 10) (by kernel_rfl))
              · refine obR_val (want_is hEA (g := 6) (x := true) (b := true) rfl rfl rfl rfl) (by kernel_rfl) (fun ph w' hp hpm hw => ?_)
                have e77 : Fr.tmps[77]? = some (.slice (some ⟨gs, os, none⟩) ms.length c5) := hEA.dst 7 _ 77 rfl rfl; simp [e77, go_sem]
              · exact obR_move _ rfl (want_is hEA (g := 6) (x := true) (b := true) rfl rfl rfl rfl) (by kernel_rfl) (eval_out hEA (d := 0) (by kernel_rfl))
              · refine obR_val (want_is hEA (g := 6) (x := true) (b := true) rfl rfl rfl rfl) (by kernel_rfl) (fun ph w' hp hpm hw => ?_)
                have e79 : Fr.tmps[79]? = some (.slice A ms.length ca) := hEA.dst 9 _ 79 rfl rfl; simp [e79, go_sem]
              · refine obR_val (want_is hEA (g := 6) (x := true) (b := true) rfl rfl rfl rfl) (by kernel_rfl) (fun ph w' hp hpm hw => ?_)
                have e78 : Fr.tmps[78]? = some (.int .i64 (ms.length : Int)) := hEA.dst 8 _ 78 rfl rfl; have e80 : Fr.tmps[80]? = some (.int .i64 (ms.length : Int)) := hEA.dst 10 _ 80 rfl rfl; simp [execOp, e78, e80, go_sem]
              · refine obR_val (want_none rfl) (by kernel_rfl) (fun ph w' hp hpm hw => ?_)
                have e76 : Fr.tmps[76]? = some (.bool true) := hEA.dst 6 _ 76 rfl rfl; have e81 : Fr.tmps[81]? = some (.bool true) := hEA.dst 11 _ 81 rfl rfl; simp [execOp, e76, e81, go_sem]
              · exact obR_move _ rfl (want_none rfl) (by kernel_rfl) (eval_dst hEA (j := 12) rfl rfl)
              · exact obR_move _ rfl (want_is hEA (g := 13) (x := true) (b := true) rfl rfl rfl rfl) (by kernel_rfl) (eval_out hEA (d := 10) (by kernel_rfl))
              · refine obR_val (want_is hEA (g := 13) (x := true) (b := true) rfl rfl rfl rfl) (by kernel_rfl) (fun ph w' hp hpm hw => ?_)
                have e84 : Fr.tmps[84]? = some (.slice (some ⟨gs, os, none⟩) ms.length c5) := hEA.dst 14 _ 84 rfl rfl; simp [execOp, e84, hpos, go_sem]
              · refine obR_val (want_is hEA (g := 13) (x := true) (b := true) rfl rfl rfl rfl) (by kernel_rfl) (fun ph w' hp hpm hw => ?_)
                have hc0 := (hw.1.cell (p := ⟨gs, os, none⟩) hgs).trans f0
                have hc1 := (hw.1.cell (p := ⟨gs, os + 1, none⟩) hgs).trans f1
                have e85 : Fr.tmps[85]? = some (.pointer (some ⟨gs, os, none⟩)) := hEA.dst 15 _ 85 rfl rfl; simp [execOp, e85, hc0, hc1, go_sem]
              · exact obR_move _ rfl (want_is hEA (g := 13) (x := true) (b := true) rfl rfl rfl rfl) (by kernel_rfl) (eval_out hEA (d := 5) (by kernel_rfl))
              · refine obR_call (q := 2) (f := 11) (args := #[.slice Al ms.length cs]) (want_is hEA (g := 13) (x := true) (b := true) rfl rfl rfl rfl) (by kernel_rfl) (fun w' => by have e87 : Fr.tmps[87]? = some (.slice Al ms.length cs) := hEA.dst 17 _ 87 rfl rfl; simp [e87, go_sem]) ?_
                intro w' hw
                refine ((show Calls _ _ _ _ (fun e W' => ∃ v', e = .returned v' ∧ Mems W'.heap.size W' ((x0, y0) :: r1) [v'] ∧ Below w'.heap.size w' W') from by have := pMembers_any _ hs fs w' (keeps_fhs _ _ _ _ _ _ HL.out hw.1 hw.1.size) (HE0.out _ _) HOK.out; rwa [HMB.out] at this)).mono ?_
                rintro e w2 ⟨v', rfl, hs, hb⟩
                exact ⟨_, rfl, fun r' hr hv => ⟨hv, ⟨hw.1.trans (hb.mono hw.1.size), fun _ => by rw [hv]; exact hs, fun h => absurd h (by decide)⟩⟩⟩
              · refine obR_val (want_is hEA (g := 13) (x := true) (b := true) rfl rfl rfl rfl) (by kernel_rfl) (fun ph w' hp hpm hw => ?_)
                obtain ⟨b9, o9, c9, hj, -, hk0, hk1⟩ := mems_first (hw.2.1 (Nat.lt_of_lt_of_le (show 2 < 3 by decide) hp))
                have e88 : Fr.tmps[88]? = some ((r 2)) := hEA.dst 18 _ 88 rfl rfl; simp [execOp, e88, hj, firstPtr, go_sem]
              · refine obR_val (want_is hEA (g := 13) (x := true) (b := true) rfl rfl rfl rfl) (by kernel_rfl) (fun ph w' hp hpm hw => ?_)
                obtain ⟨b9, o9, c9, hj, -, hk0, hk1⟩ := mems_first (hw.2.1 (Nat.lt_of_lt_of_le (show 2 < 3 by decide) hp))
                have e89 : Fr.tmps[89]? = some ((firstPtr (r 2))) := hEA.dst 19 _ 89 rfl rfl; simp [execOp, e89, hj, firstPtr, hk0, hk1, go_sem]
              · refine obR_val (want_is hEA (g := 13) (x := true) (b := true) rfl rfl rfl rfl) (by kernel_rfl) (fun ph w' hp hpm hw => ?_)
                have e86 : Fr.tmps[86]? = some (.agg #[.int .i64 x0, .int .i64 y0]) := hEA.dst 16 _ 86 rfl rfl; have e90 : Fr.tmps[90]? = some (.agg #[.int .i64 x0, .int .i64 y0]) := hEA.dst 20 _ 90 rfl rfl; simp [execOp, e86, e90, go_sem]
              · refine obR_val (want_none rfl) (by kernel_rfl) (fun ph w' hp hpm hw => ?_)
                have e83 : Fr.tmps[83]? = some (.bool true) := hEA.dst 13 _ 83 rfl rfl; have e91 : Fr.tmps[91]? = some (.bool true) := hEA.dst 21 _ 91 rfl rfl; simp [execOp, e83, e91, go_sem]
              · exact obR_move _ rfl (want_none rfl) (by kernel_rfl) (eval_dst hEA (j := 22) rfl rfl)
              · exact obR_move _ rfl (want_is hEA (g := 23) (x := true) (b := true) rfl rfl rfl rfl) (by kernel_rfl) (eval_out hEA (d := 5) (by kernel_rfl))
              · exact obR_move _ rfl (want_is hEA (g := 23) (x := true) (b := true) rfl rfl rfl rfl) (by kernel_rfl) (eval_out hEA (d := 8) (by kernel_rfl))
              · refine obR_call (q := 3) (f := 12) (args := #[.slice Al ms.length cs, vt]) (want_is hEA (g := 23) (x := true) (b := true) rfl rfl rfl rfl) (by kernel_rfl) (fun w' => by have e94 : Fr.tmps[94]? = some (.slice Al ms.length cs) := hEA.dst 24 _ 94 rfl rfl; have e95 : Fr.tmps[95]? = some (vt) := hEA.dst 25 _ 95 rfl rfl; simp [e94, e95, go_sem]) ?_
                intro w' hw
                refine (pFresh_any _ vt hs fs (shapeO fs) w' (keeps_fhs _ _ _ _ _ _ HL.out hw.1 hw.1.size) (HE0.out _ _) HOK.out (keeps_spots _ _ _ _ _ _ HT.out hw.1 hw.1.size) HOT.out).mono ?_
                rintro e w2 ⟨v', rfl, hs, hb⟩
                exact ⟨_, rfl, fun r' hr hv => ⟨hv, ⟨hw.1.trans (hb.mono hw.1.size), fun _ => by rw [hr 2 (by decide)]; exact keeps_mems _ _ _ _ _ _ (hw.2.1 (by decide)) hb hb.size, fun _ => by rw [hv]; exact hs⟩⟩⟩
              · refine obR_val (want_is hEA (g := 23) (x := true) (b := true) rfl rfl rfl rfl) (by kernel_rfl) (fun ph w' hp hpm hw => ?_)
                obtain ⟨_, _, hj, -, -⟩ := mems_len (hw.2.2 (Nat.lt_of_lt_of_le (show 3 < 4 by decide) hp)) ms.length HFL.out
                have e96 : Fr.tmps[96]? = some ((r 3)) := hEA.dst 26 _ 96 rfl rfl; simp [e96, hj, go_sem]
              · exact obR_move _ rfl (want_is hEA (g := 23) (x := true) (b := true) rfl rfl rfl rfl) (by kernel_rfl) (eval_out hEA (d := 0) (by kernel_rfl))
              · refine obR_val (want_is hEA (g := 23) (x := true) (b := true) rfl rfl rfl rfl) (by kernel_rfl) (fun ph w' hp hpm hw => ?_)
                have e98 : Fr.tmps[98]? = some (.slice A ms.length ca) := hEA.dst 28 _ 98 rfl rfl; simp [e98, go_sem]
              · refine obR_val (want_is hEA (g := 23) (x := true) (b := true) rfl rfl rfl rfl) (by kernel_rfl) (fun ph w' hp hpm hw => ?_)
                have e97 : Fr.tmps[97]? = some (.int .i64 (ms.length : Int)) := hEA.dst 27 _ 97 rfl rfl; have e99 : Fr.tmps[99]? = some (.int .i64 (ms.length : Int)) := hEA.dst 29 _ 99 rfl rfl; simp [execOp, e97, e99, go_sem]
              · refine obR_val (want_none rfl) (by kernel_rfl) (fun ph w' hp hpm hw => ?_)
                have e93 : Fr.tmps[93]? = some (.bool true) := hEA.dst 23 _ 93 rfl rfl; have e100 : Fr.tmps[100]? = some (.bool true) := hEA.dst 30 _ 100 rfl rfl; simp [execOp, e93, e100, go_sem]
              · refine obR_val (want_none rfl) (by kernel_rfl) (fun ph w' hp hpm hw => ?_)
                have e101 : Fr.tmps[101]? = some (.bool true) := hEA.dst 31 _ 101 rfl rfl; simp [execOp, e101, go_sem]
            · intro r w' hw
              simp only [laid, Act.put, List.setIfInBounds_toArray, List.set_cons_succ, List.set_cons_zero, List.getD_cons_succ, List.getD_cons_zero, Nat.zero_add, Nat.reduceAdd]
              go_wp2
              go_ret
              exact ⟨rfl, B.trans (hw.1.mono B.size)⟩

end Go.Proofs.Ytkmlnglmecjmeaa
