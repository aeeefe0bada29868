import Derived.Test.YtjnefacdindamaaGreatDoorAwake14
import Derived.Test.YtjnefacdindamaaGreatDoorExpK
import Derived.Test.YtjnefacdindamaaGreatDoorExpF
import Derived.Test.YtjnefacdindamaaGreatDoorExpL
import Derived.Test.YtjnefacdindamaaGreatDoorPhaseA
import Derived.Test.YtjnefacdindamaaGreatDoorLens
/- lodgelaw14.ExponentTells answers true, whatever case and member come in, and leaves memory below as it was. No condition. -/
namespace Go.Proofs.YtjnefacdindamaaGreatDoor
open Go Go.RowKit Num
set_option linter.unusedVariables false
set_option maxRecDepth 100000

set_option maxRecDepth 100000 in
set_option maxHeartbeats 16000000 in
theorem exponentTells_walk (c d : Array Value) (w : World) (h : ∃ x, IsCase w.heap.size w x c.toList) (h' : ∃ m, IsM w.heap.size w m d.toList) (hT : Tab w) :
    Calls Tryz.prog 3 #[.agg c, .agg d] w fun e w' => e = .returned (.bool true) ∧ Below w.heap.size w w' := by
  have HTT : Hid (∀ W, Below w.heap.size w W → Tab W) := Lib.hid fun W hb => hT.next hb
  clear hT
  obtain ⟨⟨m1, m2⟩, hm⟩ := h'
  obtain rfl : d = #[.int .i64 m1, .int .i64 m2] := by
    have hm : d.toList = [.int .i64 m1, .int .i64 m2] := hm
    rw [← Array.toArray_toList (xs := d), hm]
  clear hm
  obtain ⟨⟨g, xs, ds, L, I⟩, u, v, hc, hx, hd⟩ := h
  simp only at hc hx hd
  obtain rfl : c = #[.int .i64 g, u, v, .int .i64 L, .int .i64 I] := by rw [← Array.toArray_toList (xs := c), hc]
  obtain ⟨Ax, cx, rfl, -, -⟩ := spots_len hx xs.length rfl
  obtain ⟨Ad, cd, rfl, -, -⟩ := draws_len hd ds.length rfl
  obtain ⟨lx, hlx⟩ : ∃ l, xs.length = l := ⟨_, rfl⟩
  obtain ⟨ld, hld⟩ : ∃ l, ds.length = l := ⟨_, rfl⟩
  rw [hlx] at hx
  rw [hld] at hd
  rw [hlx, hld]
  have HX := Lib.hid hx
  have HD := Lib.hid hd
  have HLX := Lib.hid hlx
  have HLD := Lib.hid hld
  obtain ⟨sb, hb1, hb2⟩ := smallE_any g xs ds
  have HSM := Lib.hid hb2
  clear hx hd hc hb2 hlx hld
  go_enter Tryz.func3, Tryz.ntmps3
  go_wp2_with fail
  obtain ⟨W0, hW0, b0, b1, B⟩ : ∃ W0, (w.alloc (.cells #[.int .i64 g, .slice Ax lx cx, .slice Ad ld cd, .int .i64 L, .int .i64 I] 27)).alloc (.cells #[.int .i64 m1, .int .i64 m2] 29) = W0 ∧ Box W0 w.heap.size [.int .i64 g, .slice Ax lx cx, .slice Ad ld cd, .int .i64 L, .int .i64 I] ∧ Box W0 (w.heap.size + 1) [.int .i64 m1, .int .i64 m2] ∧ Below w.heap.size w W0 := ⟨_, rfl, (Box.new w _ _).next (below_new _ _), by have := Box.new (w.alloc (.cells #[.int .i64 g, .slice Ax lx cx, .slice Ad ld cd, .int .i64 L, .int .i64 I] 27)) [.int .i64 m1, .int .i64 m2] 29; rwa [World.size_alloc] at this, below_new2 _ _ _⟩
  rw [hW0]
  clear hW0
  replace HX := Lib.hid (keeps_spots _ _ _ _ _ _ HX.out B B.size)
  replace HD := Lib.hid (keeps_draws _ _ _ _ _ _ HD.out B B.size)
  obtain ⟨G0, hG0⟩ : ∃ G, w.heap.size = G := ⟨_, rfl⟩
  obtain ⟨G1, hG1⟩ : ∃ G, G0 + 1 = G := ⟨_, rfl⟩
  rw [hG0, hG1] at b1
  rw [hG0] at b0
  try rw [hG0, hG1]
  clear hG0 hG1
  refine (HSM.out _ _ W0 HX.out HD.out).mono ?_
  rintro e W1 ⟨rfl, hb⟩
  replace HX := Lib.hid (keeps_spots _ _ _ _ _ _ HX.out hb hb.size)
  replace HD := Lib.hid (keeps_draws _ _ _ _ _ _ HD.out hb hb.size)
  replace b0 := b0.next hb
  replace b1 := b1.next hb
  replace B := B.trans (hb.mono B.size)
  clear hb
  cases sb with
  | false =>
    clear hb1
    go_wp2_with fail
    refine (awake14_any W1 (HTT.out _ B)).mono ?_
    rintro e W9 ⟨rfl, B9⟩
    go_wp2
    go_ret
    exact ⟨rfl, B.trans (B9.mono B.size)⟩
  | true =>
    obtain ⟨hg5, hxl, hdl, hds, ot, rfl, hok⟩ := hb1 rfl
    have hht : htO ot ≤ 60 := ht_small hxl
    have hn : (spo ot).length ≤ 1000000 := by omega
    have hsh : ∀ m ∈ lvO ot, (secL ds m).length ≤ 4 := fun m _ => secL_four hds m
    clear hb1
    go_wp2_with fail
    refine wp_region_results (fun r i => ([.bool true, .bool true, .pointer (some ⟨G0, 0, none⟩), .int .i64 g, .pointer (some ⟨G0, 1, none⟩), .slice Ax lx cx, .pointer (some ⟨G0, 2, none⟩), .slice Ad ld cd, .string (tx (keyO g ds ot)), .pointer (some ⟨G0, 0, none⟩), .int .i64 g, .pointer (some ⟨G0, 1, none⟩), .slice Ax lx cx, .pointer (some ⟨G0, 2, none⟩), .slice Ad ld cd, .string (tx (keyO g ds ot)), .bool true, .bool true, .bool true, .pointer (some ⟨G0, 0, none⟩), .int .i64 g, .pointer (some ⟨G0, 1, none⟩), .slice Ax lx cx, .pointer (some ⟨G0, 2, none⟩), .slice Ad ld cd, .pointer (some ⟨G0, 3, none⟩), .agg #[.int .i64 L, .int .i64 I], .string (tx (bliO g ds ot L I)), .pointer (some ⟨G0, 0, none⟩), .int .i64 g, .pointer (some ⟨G0, 1, none⟩), .slice Ax lx cx, .pointer (some ⟨G0, 2, none⟩), .slice Ad ld cd, .pointer (some ⟨G0, 3, none⟩), .agg #[.int .i64 L, .int .i64 I], .string (tx (bliO g ds ot L I)), .bool true, .bool true, .bool true, .pointer (some ⟨G0, 2, none⟩), .slice Ad ld cd, .agg #[.int .i64 m1, .int .i64 m2], .string (tx (secL ds (m1, m2))), .pointer (some ⟨G0, 2, none⟩), .slice Ad ld cd, .agg #[.int .i64 m1, .int .i64 m2], .string (tx (secL ds (m1, m2))), .bool true, .bool true, .bool true, .pointer (some ⟨G0, 1, none⟩), .slice Ax lx cx, .string (tx (formO ot)), .pointer (some ⟨G0, 1, none⟩), .slice Ax lx cx, .string (tx (formO ot)), .bool true, .bool true, .bool true] : List Value).getD i undef) [0, 8, 15, 27, 36, 43, 47, 53, 56] [0, 1, 1, 1, 1, 1, 1, 1, 1, 1, 1, 1, 1, 1, 1, 2, 3, 3, 3, 3, 3, 3, 3, 3, 3, 3, 3, 3, 3, 3, 3, 3, 3, 3, 3, 3, 4, 5, 5, 5, 5, 5, 5, 5, 5, 5, 5, 6, 7, 7, 7, 7, 7, 7, 7, 7, 8, 9, 9, 9] (fun r q w' => (Below W1.heap.size W1 w')) (by kernel_rfl) (by kernel_rfl) (fun r => ⟨rfl, rfl, rfl, Nat.le_refl _, fun _ _ => rfl⟩) ?_ ?_
    · refine ObsR_of_ends (by kernel_rfl) ?_
      intro r Fr hEA
      refine ⟨?_, ?_, ?_, ?_, ?_, ?_, ?_, ?_, ?_, ?_, ?_, ?_, ?_, ?_, ?_, ?_, ?_, ?_, ?_, ?_, ?_, ?_, ?_, ?_, ?_, ?_, ?_, ?_, ?_, ?_, ?_, ?_, ?_, ?_, ?_, ?_, ?_, ?_, ?_, ?_, ?_, ?_, ?_, ?_, ?_, ?_, ?_, ?_, ?_, ?_, ?_, ?_, ?_, ?_, ?_, ?_, ?_, ?_, ?_, ?_, trivial⟩
      · refine obR_call (q := 0) (f := 9) (args := #[]) (want_none rfl) (by kernel_rfl) (fun w' => by simp [go_sem]) ?_
        intro w' hw
        refine (awake14_any w' (HTT.out _ (B.trans (hw.mono B.size)))).mono ?_
        rintro e w2 ⟨rfl, hb⟩
        exact ⟨_, rfl, fun r' hr hv => ⟨rfl, hw.trans (hb.mono hw.size)⟩⟩
      · exact obR_move _ rfl (want_none rfl) (by kernel_rfl) (eval_dst hEA (j := 0) rfl rfl)
      · refine obR_val (want_is hEA (g := 1) (x := true) (b := true) rfl rfl rfl rfl) (by kernel_rfl) (fun ph w' hp hpm hw => ?_)
        have e2 : Fr.tmps[2]? = some (.pointer (some ⟨G0, 0, none⟩)) := at_out hEA (d := 2) (by kernel_rfl); simp [execOp, e2, go_sem]
      · refine obR_val (want_is hEA (g := 1) (x := true) (b := true) rfl rfl rfl rfl) (by kernel_rfl) (fun ph w' hp hpm hw => ?_)
        have hc0 := (hw.cell (p := ⟨G0, 0, none⟩) b0.lt).trans (b0.c 0 _ rfl)
        have e16 : Fr.tmps[16]? = some (.pointer (some ⟨G0, 0, none⟩)) := hEA.dst 2 _ 16 rfl rfl; simp [execOp, e16, hc0, go_sem]
      · refine obR_val (want_is hEA (g := 1) (x := true) (b := true) rfl rfl rfl rfl) (by kernel_rfl) (fun ph w' hp hpm hw => ?_)
        have e2 : Fr.tmps[2]? = some (.pointer (some ⟨G0, 0, none⟩)) := at_out hEA (d := 2) (by kernel_rfl); simp [execOp, e2, go_sem]
      · refine obR_val (want_is hEA (g := 1) (x := true) (b := true) rfl rfl rfl rfl) (by kernel_rfl) (fun ph w' hp hpm hw => ?_)
        have hc0 := (hw.cell (p := ⟨G0, 1, none⟩) b0.lt).trans (b0.c 1 _ rfl)
        have e18 : Fr.tmps[18]? = some (.pointer (some ⟨G0, 1, none⟩)) := hEA.dst 4 _ 18 rfl rfl; simp [execOp, e18, hc0, go_sem]
      · refine obR_val (want_is hEA (g := 1) (x := true) (b := true) rfl rfl rfl rfl) (by kernel_rfl) (fun ph w' hp hpm hw => ?_)
        have e2 : Fr.tmps[2]? = some (.pointer (some ⟨G0, 0, none⟩)) := at_out hEA (d := 2) (by kernel_rfl); simp [execOp, e2, go_sem]
      · refine obR_val (want_is hEA (g := 1) (x := true) (b := true) rfl rfl rfl rfl) (by kernel_rfl) (fun ph w' hp hpm hw => ?_)
        have hc0 := (hw.cell (p := ⟨G0, 2, none⟩) b0.lt).trans (b0.c 2 _ rfl)
        have e20 : Fr.tmps[20]? = some (.pointer (some ⟨G0, 2, none⟩)) := hEA.dst 6 _ 20 rfl rfl; simp [execOp, e20, hc0, go_sem]
      · refine obR_call (q := 1) (f := 10) (args := #[.int .i64 g, .slice Ax lx cx, .slice Ad ld cd]) (want_is hEA (g := 1) (x := true) (b := true) rfl rfl rfl rfl) (by kernel_rfl) (fun w' => by have e17 : Fr.tmps[17]? = some (.int .i64 g) := hEA.dst 3 _ 17 rfl rfl; have e19 : Fr.tmps[19]? = some (.slice Ax lx cx) := hEA.dst 5 _ 19 rfl rfl; have e21 : Fr.tmps[21]? = some (.slice Ad ld cd) := hEA.dst 7 _ 21 rfl rfl; simp [e17, e19, e21, go_sem]) ?_
        intro w' hw
        refine (eKey_any g ds ot _ _ w' (keeps_spots _ _ _ _ _ _ HX.out hw hw.size) (keeps_draws _ _ _ _ _ _ HD.out hw hw.size) hok hht hsh).mono ?_
        rintro e w2 ⟨rfl, hb⟩
        exact ⟨_, rfl, fun r' hr hv => ⟨rfl, hw.trans (hb.mono hw.size)⟩⟩
      · refine obR_val (want_is hEA (g := 1) (x := true) (b := true) rfl rfl rfl rfl) (by kernel_rfl) (fun ph w' hp hpm hw => ?_)
        have e2 : Fr.tmps[2]? = some (.pointer (some ⟨G0, 0, none⟩)) := at_out hEA (d := 2) (by kernel_rfl); simp [execOp, e2, go_sem]
      · refine obR_val (want_is hEA (g := 1) (x := true) (b := true) rfl rfl rfl rfl) (by kernel_rfl) (fun ph w' hp hpm hw => ?_)
        have hc0 := (hw.cell (p := ⟨G0, 0, none⟩) b0.lt).trans (b0.c 0 _ rfl)
        have e23 : Fr.tmps[23]? = some (.pointer (some ⟨G0, 0, none⟩)) := hEA.dst 9 _ 23 rfl rfl; simp [execOp, e23, hc0, go_sem]
      · refine obR_val (want_is hEA (g := 1) (x := true) (b := true) rfl rfl rfl rfl) (by kernel_rfl) (fun ph w' hp hpm hw => ?_)
        have e2 : Fr.tmps[2]? = some (.pointer (some ⟨G0, 0, none⟩)) := at_out hEA (d := 2) (by kernel_rfl); simp [execOp, e2, go_sem]
      · refine obR_val (want_is hEA (g := 1) (x := true) (b := true) rfl rfl rfl rfl) (by kernel_rfl) (fun ph w' hp hpm hw => ?_)
        have hc0 := (hw.cell (p := ⟨G0, 1, none⟩) b0.lt).trans (b0.c 1 _ rfl)
        have e25 : Fr.tmps[25]? = some (.pointer (some ⟨G0, 1, none⟩)) := hEA.dst 11 _ 25 rfl rfl; simp [execOp, e25, hc0, go_sem]
      · refine obR_val (want_is hEA (g := 1) (x := true) (b := true) rfl rfl rfl rfl) (by kernel_rfl) (fun ph w' hp hpm hw => ?_)
        have e2 : Fr.tmps[2]? = some (.pointer (some ⟨G0, 0, none⟩)) := at_out hEA (d := 2) (by kernel_rfl); simp [execOp, e2, go_sem]
      · refine obR_val (want_is hEA (g := 1) (x := true) (b := true) rfl rfl rfl rfl) (by kernel_rfl) (fun ph w' hp hpm hw => ?_)
        have hc0 := (hw.cell (p := ⟨G0, 2, none⟩) b0.lt).trans (b0.c 2 _ rfl)
        have e27 : Fr.tmps[27]? = some (.pointer (some ⟨G0, 2, none⟩)) := hEA.dst 13 _ 27 rfl rfl; simp [execOp, e27, hc0, go_sem]
      · refine obR_call (q := 2) (f := 11) (args := #[.int .i64 g, .slice Ax lx cx, .slice Ad ld cd]) (want_is hEA (g := 1) (x := true) (b := true) rfl rfl rfl rfl) (by kernel_rfl) (fun w' => by have e24 : Fr.tmps[24]? = some (.int .i64 g) := hEA.dst 10 _ 24 rfl rfl; have e26 : Fr.tmps[26]? = some (.slice Ax lx cx) := hEA.dst 12 _ 26 rfl rfl; have e28 : Fr.tmps[28]? = some (.slice Ad ld cd) := hEA.dst 14 _ 28 rfl rfl; simp [e24, e26, e28, go_sem]) ?_
        intro w' hw
        refine (refKey_any g ds hds ot _ _ w' (keeps_spots _ _ _ _ _ _ HX.out hw hw.size) (keeps_draws _ _ _ _ _ _ HD.out hw hw.size) hn).mono ?_
        rintro e w2 ⟨rfl, hb⟩
        exact ⟨_, rfl, fun r' hr hv => ⟨rfl, hw.trans (hb.mono hw.size)⟩⟩
      · refine obR_val (want_is hEA (g := 1) (x := true) (b := true) rfl rfl rfl rfl) (by kernel_rfl) (fun ph w' hp hpm hw => ?_)
        have e22 : Fr.tmps[22]? = some (.string (tx (keyO g ds ot))) := hEA.dst 8 _ 22 rfl rfl; have e29 : Fr.tmps[29]? = some (.string (tx (keyO g ds ot))) := hEA.dst 15 _ 29 rfl rfl; simp [execOp, e22, e29, go_sem]
      · refine obR_val (want_none rfl) (by kernel_rfl) (fun ph w' hp hpm hw => ?_)
        have e15 : Fr.tmps[15]? = some (.bool true) := hEA.dst 1 _ 15 rfl rfl; have e30 : Fr.tmps[30]? = some (.bool true) := hEA.dst 16 _ 30 rfl rfl; simp [execOp, e15, e30, go_sem]
      · exact obR_move _ rfl (want_none rfl) (by kernel_rfl) (eval_dst hEA (j := 17) rfl rfl)
      · refine obR_val (want_is hEA (g := 18) (x := true) (b := true) rfl rfl rfl rfl) (by kernel_rfl) (fun ph w' hp hpm hw => ?_)
        have e2 : Fr.tmps[2]? = some (.pointer (some ⟨G0, 0, none⟩)) := at_out hEA (d := 2) (by kernel_rfl); simp [execOp, e2, go_sem]
      · refine obR_val (want_is hEA (g := 18) (x := true) (b := true) rfl rfl rfl rfl) (by kernel_rfl) (fun ph w' hp hpm hw => ?_)
        have hc0 := (hw.cell (p := ⟨G0, 0, none⟩) b0.lt).trans (b0.c 0 _ rfl)
        have e33 : Fr.tmps[33]? = some (.pointer (some ⟨G0, 0, none⟩)) := hEA.dst 19 _ 33 rfl rfl; simp [execOp, e33, hc0, go_sem]
      · refine obR_val (want_is hEA (g := 18) (x := true) (b := true) rfl rfl rfl rfl) (by kernel_rfl) (fun ph w' hp hpm hw => ?_)
        have e2 : Fr.tmps[2]? = some (.pointer (some ⟨G0, 0, none⟩)) := at_out hEA (d := 2) (by kernel_rfl); simp [execOp, e2, go_sem]
      · refine obR_val (want_is hEA (g := 18) (x := true) (b := true) rfl rfl rfl rfl) (by kernel_rfl) (fun ph w' hp hpm hw => ?_)
        have hc0 := (hw.cell (p := ⟨G0, 1, none⟩) b0.lt).trans (b0.c 1 _ rfl)
        have e35 : Fr.tmps[35]? = some (.pointer (some ⟨G0, 1, none⟩)) := hEA.dst 21 _ 35 rfl rfl; simp [execOp, e35, hc0, go_sem]
      · refine obR_val (want_is hEA (g := 18) (x := true) (b := true) rfl rfl rfl rfl) (by kernel_rfl) (fun ph w' hp hpm hw => ?_)
        have e2 : Fr.tmps[2]? = some (.pointer (some ⟨G0, 0, none⟩)) := at_out hEA (d := 2) (by kernel_rfl); simp [execOp, e2, go_sem]
      · refine obR_val (want_is hEA (g := 18) (x := true) (b := true) rfl rfl rfl rfl) (by kernel_rfl) (fun ph w' hp hpm hw => ?_)
        have hc0 := (hw.cell (p := ⟨G0, 2, none⟩) b0.lt).trans (b0.c 2 _ rfl)
        have e37 : Fr.tmps[37]? = some (.pointer (some ⟨G0, 2, none⟩)) := hEA.dst 23 _ 37 rfl rfl; simp [execOp, e37, hc0, go_sem]
      · refine obR_val (want_is hEA (g := 18) (x := true) (b := true) rfl rfl rfl rfl) (by kernel_rfl) (fun ph w' hp hpm hw => ?_)
        have e2 : Fr.tmps[2]? = some (.pointer (some ⟨G0, 0, none⟩)) := at_out hEA (d := 2) (by kernel_rfl); simp [execOp, e2, go_sem]
      · refine obR_val (want_is hEA (g := 18) (x := true) (b := true) rfl rfl rfl rfl) (by kernel_rfl) (fun ph w' hp hpm hw => ?_)
        have hc0 := (hw.cell (p := ⟨G0, 3, none⟩) b0.lt).trans (b0.c 3 _ rfl)
        have hc1 := (hw.cell (p := ⟨G0, 4, none⟩) b0.lt).trans (b0.c 4 _ rfl)
        have e39 : Fr.tmps[39]? = some (.pointer (some ⟨G0, 3, none⟩)) := hEA.dst 25 _ 39 rfl rfl; simp [execOp, e39, hc0, hc1, go_sem]
      · refine obR_call (q := 3) (f := 12) (args := #[.int .i64 g, .slice Ax lx cx, .slice Ad ld cd, .agg #[.int .i64 L, .int .i64 I]]) (want_is hEA (g := 18) (x := true) (b := true) rfl rfl rfl rfl) (by kernel_rfl) (fun w' => by have e34 : Fr.tmps[34]? = some (.int .i64 g) := hEA.dst 20 _ 34 rfl rfl; have e36 : Fr.tmps[36]? = some (.slice Ax lx cx) := hEA.dst 22 _ 36 rfl rfl; have e38 : Fr.tmps[38]? = some (.slice Ad ld cd) := hEA.dst 24 _ 38 rfl rfl; have e40 : Fr.tmps[40]? = some (.agg #[.int .i64 L, .int .i64 I]) := hEA.dst 26 _ 40 rfl rfl; simp [e34, e36, e38, e40, go_sem]) ?_
        intro w' hw
        refine (eBlinded_any g ds ot L I _ _ w' (keeps_spots _ _ _ _ _ _ HX.out hw hw.size) (keeps_draws _ _ _ _ _ _ HD.out hw hw.size) hok hht hsh).mono ?_
        rintro e w2 ⟨rfl, hb⟩
        exact ⟨_, rfl, fun r' hr hv => ⟨rfl, hw.trans (hb.mono hw.size)⟩⟩
      · refine obR_val (want_is hEA (g := 18) (x := true) (b := true) rfl rfl rfl rfl) (by kernel_rfl) (fun ph w' hp hpm hw => ?_)
        have e2 : Fr.tmps[2]? = some (.pointer (some ⟨G0, 0, none⟩)) := at_out hEA (d := 2) (by kernel_rfl); simp [execOp, e2, go_sem]
      · refine obR_val (want_is hEA (g := 18) (x := true) (b := true) rfl rfl rfl rfl) (by kernel_rfl) (fun ph w' hp hpm hw => ?_)
        have hc0 := (hw.cell (p := ⟨G0, 0, none⟩) b0.lt).trans (b0.c 0 _ rfl)
        have e42 : Fr.tmps[42]? = some (.pointer (some ⟨G0, 0, none⟩)) := hEA.dst 28 _ 42 rfl rfl; simp [execOp, e42, hc0, go_sem]
      · refine obR_val (want_is hEA (g := 18) (x := true) (b := true) rfl rfl rfl rfl) (by kernel_rfl) (fun ph w' hp hpm hw => ?_)
        have e2 : Fr.tmps[2]? = some (.pointer (some ⟨G0, 0, none⟩)) := at_out hEA (d := 2) (by kernel_rfl); simp [execOp, e2, go_sem]
      · refine obR_val (want_is hEA (g := 18) (x := true) (b := true) rfl rfl rfl rfl) (by kernel_rfl) (fun ph w' hp hpm hw => ?_)
        have hc0 := (hw.cell (p := ⟨G0, 1, none⟩) b0.lt).trans (b0.c 1 _ rfl)
        have e44 : Fr.tmps[44]? = some (.pointer (some ⟨G0, 1, none⟩)) := hEA.dst 30 _ 44 rfl rfl; simp [execOp, e44, hc0, go_sem]
      · refine obR_val (want_is hEA (g := 18) (x := true) (b := true) rfl rfl rfl rfl) (by kernel_rfl) (fun ph w' hp hpm hw => ?_)
        have e2 : Fr.tmps[2]? = some (.pointer (some ⟨G0, 0, none⟩)) := at_out hEA (d := 2) (by kernel_rfl); simp [execOp, e2, go_sem]
      · refine obR_val (want_is hEA (g := 18) (x := true) (b := true) rfl rfl rfl rfl) (by kernel_rfl) (fun ph w' hp hpm hw => ?_)
        have hc0 := (hw.cell (p := ⟨G0, 2, none⟩) b0.lt).trans (b0.c 2 _ rfl)
        have e46 : Fr.tmps[46]? = some (.pointer (some ⟨G0, 2, none⟩)) := hEA.dst 32 _ 46 rfl rfl; simp [execOp, e46, hc0, go_sem]
      · refine obR_val (want_is hEA (g := 18) (x := true) (b := true) rfl rfl rfl rfl) (by kernel_rfl) (fun ph w' hp hpm hw => ?_)
        have e2 : Fr.tmps[2]? = some (.pointer (some ⟨G0, 0, none⟩)) := at_out hEA (d := 2) (by kernel_rfl); simp [execOp, e2, go_sem]
      · refine obR_val (want_is hEA (g := 18) (x := true) (b := true) rfl rfl rfl rfl) (by kernel_rfl) (fun ph w' hp hpm hw => ?_)
        have hc0 := (hw.cell (p := ⟨G0, 3, none⟩) b0.lt).trans (b0.c 3 _ rfl)
        have hc1 := (hw.cell (p := ⟨G0, 4, none⟩) b0.lt).trans (b0.c 4 _ rfl)
        have e48 : Fr.tmps[48]? = some (.pointer (some ⟨G0, 3, none⟩)) := hEA.dst 34 _ 48 rfl rfl; simp [execOp, e48, hc0, hc1, go_sem]
      · refine obR_call (q := 4) (f := 13) (args := #[.int .i64 g, .slice Ax lx cx, .slice Ad ld cd, .agg #[.int .i64 L, .int .i64 I]]) (want_is hEA (g := 18) (x := true) (b := true) rfl rfl rfl rfl) (by kernel_rfl) (fun w' => by have e43 : Fr.tmps[43]? = some (.int .i64 g) := hEA.dst 29 _ 43 rfl rfl; have e45 : Fr.tmps[45]? = some (.slice Ax lx cx) := hEA.dst 31 _ 45 rfl rfl; have e47 : Fr.tmps[47]? = some (.slice Ad ld cd) := hEA.dst 33 _ 47 rfl rfl; have e49 : Fr.tmps[49]? = some (.agg #[.int .i64 L, .int .i64 I]) := hEA.dst 35 _ 49 rfl rfl; simp [e43, e45, e47, e49, go_sem]) ?_
        intro w' hw
        refine (refBlinded_any g ds hds ot L I _ _ w' (keeps_spots _ _ _ _ _ _ HX.out hw hw.size) (keeps_draws _ _ _ _ _ _ HD.out hw hw.size) hn).mono ?_
        rintro e w2 ⟨rfl, hb⟩
        exact ⟨_, rfl, fun r' hr hv => ⟨rfl, hw.trans (hb.mono hw.size)⟩⟩
      · refine obR_val (want_is hEA (g := 18) (x := true) (b := true) rfl rfl rfl rfl) (by kernel_rfl) (fun ph w' hp hpm hw => ?_)
        have e41 : Fr.tmps[41]? = some (.string (tx (bliO g ds ot L I))) := hEA.dst 27 _ 41 rfl rfl; have e50 : Fr.tmps[50]? = some (.string (tx (bliO g ds ot L I))) := hEA.dst 36 _ 50 rfl rfl; simp [execOp, e41, e50, go_sem]
      · refine obR_val (want_none rfl) (by kernel_rfl) (fun ph w' hp hpm hw => ?_)
        have e32 : Fr.tmps[32]? = some (.bool true) := hEA.dst 18 _ 32 rfl rfl; have e51 : Fr.tmps[51]? = some (.bool true) := hEA.dst 37 _ 51 rfl rfl; simp [execOp, e32, e51, go_sem]
      · exact obR_move _ rfl (want_none rfl) (by kernel_rfl) (eval_dst hEA (j := 38) rfl rfl)
      · refine obR_val (want_is hEA (g := 39) (x := true) (b := true) rfl rfl rfl rfl) (by kernel_rfl) (fun ph w' hp hpm hw => ?_)
        have e2 : Fr.tmps[2]? = some (.pointer (some ⟨G0, 0, none⟩)) := at_out hEA (d := 2) (by kernel_rfl); simp [execOp, e2, go_sem]
      · refine obR_val (want_is hEA (g := 39) (x := true) (b := true) rfl rfl rfl rfl) (by kernel_rfl) (fun ph w' hp hpm hw => ?_)
        have hc0 := (hw.cell (p := ⟨G0, 2, none⟩) b0.lt).trans (b0.c 2 _ rfl)
        have e54 : Fr.tmps[54]? = some (.pointer (some ⟨G0, 2, none⟩)) := hEA.dst 40 _ 54 rfl rfl; simp [execOp, e54, hc0, go_sem]
      · refine obR_val (want_is hEA (g := 39) (x := true) (b := true) rfl rfl rfl rfl) (by kernel_rfl) (fun ph w' hp hpm hw => ?_)
        have hc0 := (hw.cell (p := ⟨G1, 0, none⟩) b1.lt).trans (b1.c 0 _ rfl)
        have hc1 := (hw.cell (p := ⟨G1, 1, none⟩) b1.lt).trans (b1.c 1 _ rfl)
        have e3 : Fr.tmps[3]? = some (.pointer (some ⟨G1, 0, none⟩)) := at_out hEA (d := 3) (by kernel_rfl); simp [execOp, e3, hc0, hc1, go_sem]
      · refine obR_call (q := 5) (f := 14) (args := #[.slice Ad ld cd, .agg #[.int .i64 m1, .int .i64 m2]]) (want_is hEA (g := 39) (x := true) (b := true) rfl rfl rfl rfl) (by kernel_rfl) (fun w' => by have e55 : Fr.tmps[55]? = some (.slice Ad ld cd) := hEA.dst 41 _ 55 rfl rfl; have e56 : Fr.tmps[56]? = some (.agg #[.int .i64 m1, .int .i64 m2]) := hEA.dst 42 _ 56 rfl rfl; simp [e55, e56, go_sem]) ?_
        intro w' hw
        refine (eSecret_any _ ds m1 m2 w' (keeps_draws _ _ _ _ _ _ HD.out hw hw.size)).mono ?_
        rintro e w2 ⟨rfl, hb⟩
        exact ⟨_, rfl, fun r' hr hv => ⟨rfl, hw.trans (hb.mono hw.size)⟩⟩
      · refine obR_val (want_is hEA (g := 39) (x := true) (b := true) rfl rfl rfl rfl) (by kernel_rfl) (fun ph w' hp hpm hw => ?_)
        have e2 : Fr.tmps[2]? = some (.pointer (some ⟨G0, 0, none⟩)) := at_out hEA (d := 2) (by kernel_rfl); simp [execOp, e2, go_sem]
      · refine obR_val (want_is hEA (g := 39) (x := true) (b := true) rfl rfl rfl rfl) (by kernel_rfl) (fun ph w' hp hpm hw => ?_)
        have hc0 := (hw.cell (p := ⟨G0, 2, none⟩) b0.lt).trans (b0.c 2 _ rfl)
        have e58 : Fr.tmps[58]? = some (.pointer (some ⟨G0, 2, none⟩)) := hEA.dst 44 _ 58 rfl rfl; simp [execOp, e58, hc0, go_sem]
      · refine obR_val (want_is hEA (g := 39) (x := true) (b := true) rfl rfl rfl rfl) (by kernel_rfl) (fun ph w' hp hpm hw => ?_)
        have hc0 := (hw.cell (p := ⟨G1, 0, none⟩) b1.lt).trans (b1.c 0 _ rfl)
        have hc1 := (hw.cell (p := ⟨G1, 1, none⟩) b1.lt).trans (b1.c 1 _ rfl)
        have e3 : Fr.tmps[3]? = some (.pointer (some ⟨G1, 0, none⟩)) := at_out hEA (d := 3) (by kernel_rfl); simp [execOp, e3, hc0, hc1, go_sem]
      · refine obR_call (q := 6) (f := 15) (args := #[.slice Ad ld cd, .agg #[.int .i64 m1, .int .i64 m2]]) (want_is hEA (g := 39) (x := true) (b := true) rfl rfl rfl rfl) (by kernel_rfl) (fun w' => by have e59 : Fr.tmps[59]? = some (.slice Ad ld cd) := hEA.dst 45 _ 59 rfl rfl; have e60 : Fr.tmps[60]? = some (.agg #[.int .i64 m1, .int .i64 m2]) := hEA.dst 46 _ 60 rfl rfl; simp [e59, e60, go_sem]) ?_
        intro w' hw
        refine (refSecret_any _ ds m1 m2 w' (keeps_draws _ _ _ _ _ _ HD.out hw hw.size)).mono ?_
        rintro e w2 ⟨rfl, hb⟩
        exact ⟨_, rfl, fun r' hr hv => ⟨rfl, hw.trans (hb.mono hw.size)⟩⟩
      · refine obR_val (want_is hEA (g := 39) (x := true) (b := true) rfl rfl rfl rfl) (by kernel_rfl) (fun ph w' hp hpm hw => ?_)
        have e57 : Fr.tmps[57]? = some (.string (tx (secL ds (m1, m2)))) := hEA.dst 43 _ 57 rfl rfl; have e61 : Fr.tmps[61]? = some (.string (tx (secL ds (m1, m2)))) := hEA.dst 47 _ 61 rfl rfl; simp [execOp, e57, e61, go_sem]
      · refine obR_val (want_none rfl) (by kernel_rfl) (fun ph w' hp hpm hw => ?_)
        have e53 : Fr.tmps[53]? = some (.bool true) := hEA.dst 39 _ 53 rfl rfl; have e62 : Fr.tmps[62]? = some (.bool true) := hEA.dst 48 _ 62 rfl rfl; simp [execOp, e53, e62, go_sem]
      · exact obR_move _ rfl (want_none rfl) (by kernel_rfl) (eval_dst hEA (j := 49) rfl rfl)
      · refine obR_val (want_is hEA (g := 50) (x := true) (b := true) rfl rfl rfl rfl) (by kernel_rfl) (fun ph w' hp hpm hw => ?_)
        have e2 : Fr.tmps[2]? = some (.pointer (some ⟨G0, 0, none⟩)) := at_out hEA (d := 2) (by kernel_rfl); simp [execOp, e2, go_sem]
      · refine obR_val (want_is hEA (g := 50) (x := true) (b := true) rfl rfl rfl rfl) (by kernel_rfl) (fun ph w' hp hpm hw => ?_)
        have hc0 := (hw.cell (p := ⟨G0, 1, none⟩) b0.lt).trans (b0.c 1 _ rfl)
        have e65 : Fr.tmps[65]? = some (.pointer (some ⟨G0, 1, none⟩)) := hEA.dst 51 _ 65 rfl rfl; simp [execOp, e65, hc0, go_sem]
      · refine obR_call (q := 7) (f := 16) (args := #[.slice Ax lx cx]) (want_is hEA (g := 50) (x := true) (b := true) rfl rfl rfl rfl) (by kernel_rfl) (fun w' => by have e66 : Fr.tmps[66]? = some (.slice Ax lx cx) := hEA.dst 52 _ 66 rfl rfl; simp [e66, go_sem]) ?_
        intro w' hw
        refine (eFormal_any ot _ w' (keeps_spots _ _ _ _ _ _ HX.out hw hw.size) hok hht (HTT.out _ (B.trans (hw.mono B.size)))).mono ?_
        rintro e w2 ⟨rfl, hb⟩
        exact ⟨_, rfl, fun r' hr hv => ⟨rfl, hw.trans (hb.mono hw.size)⟩⟩
      · refine obR_val (want_is hEA (g := 50) (x := true) (b := true) rfl rfl rfl rfl) (by kernel_rfl) (fun ph w' hp hpm hw => ?_)
        have e2 : Fr.tmps[2]? = some (.pointer (some ⟨G0, 0, none⟩)) := at_out hEA (d := 2) (by kernel_rfl); simp [execOp, e2, go_sem]
      · refine obR_val (want_is hEA (g := 50) (x := true) (b := true) rfl rfl rfl rfl) (by kernel_rfl) (fun ph w' hp hpm hw => ?_)
        have hc0 := (hw.cell (p := ⟨G0, 1, none⟩) b0.lt).trans (b0.c 1 _ rfl)
        have e68 : Fr.tmps[68]? = some (.pointer (some ⟨G0, 1, none⟩)) := hEA.dst 54 _ 68 rfl rfl; simp [execOp, e68, hc0, go_sem]
      · refine obR_call (q := 8) (f := 17) (args := #[.slice Ax lx cx]) (want_is hEA (g := 50) (x := true) (b := true) rfl rfl rfl rfl) (by kernel_rfl) (fun w' => by have e69 : Fr.tmps[69]? = some (.slice Ax lx cx) := hEA.dst 55 _ 69 rfl rfl; simp [e69, go_sem]) ?_
        intro w' hw
        refine (refFormal_any ot _ w' (keeps_spots _ _ _ _ _ _ HX.out hw hw.size) hok).mono ?_
        rintro e w2 ⟨rfl, hb⟩
        exact ⟨_, rfl, fun r' hr hv => ⟨rfl, hw.trans (hb.mono hw.size)⟩⟩
      · refine obR_val (want_is hEA (g := 50) (x := true) (b := true) rfl rfl rfl rfl) (by kernel_rfl) (fun ph w' hp hpm hw => ?_)
        have e67 : Fr.tmps[67]? = some (.string (tx (formO ot))) := hEA.dst 53 _ 67 rfl rfl; have e70 : Fr.tmps[70]? = some (.string (tx (formO ot))) := hEA.dst 56 _ 70 rfl rfl; simp [execOp, e67, e70, go_sem]
      · refine obR_val (want_none rfl) (by kernel_rfl) (fun ph w' hp hpm hw => ?_)
        have e64 : Fr.tmps[64]? = some (.bool true) := hEA.dst 50 _ 64 rfl rfl; have e71 : Fr.tmps[71]? = some (.bool true) := hEA.dst 57 _ 71 rfl rfl; simp [execOp, e64, e71, go_sem]
      · refine obR_val (want_none rfl) (by kernel_rfl) (fun ph w' hp hpm hw => ?_)
        have e72 : Fr.tmps[72]? = some (.bool true) := hEA.dst 58 _ 72 rfl rfl; simp [execOp, e72, go_sem]
    · intro r w' hw
      simp only [laid, Act.put, List.setIfInBounds_toArray, List.set_cons_succ, List.set_cons_zero, List.getD_cons_succ, List.getD_cons_zero, Nat.zero_add, Nat.reduceAdd]
      go_wp2
      go_ret
      exact ⟨rfl, B.trans (hw.mono B.size)⟩

end Go.Proofs.YtjnefacdindamaaGreatDoor
