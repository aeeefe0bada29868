import Derived.Test.YtjnefacdindamaaGreatDoorAwake14
import Derived.Test.YtjnefacdindamaaGreatDoorExpK
import Derived.Test.YtjnefacdindamaaGreatDoorExpF
import Derived.Test.YtjnefacdindamaaGreatDoorExpL
import Derived.Test.YtjnefacdindamaaGreatDoorPhaseA
import Derived.Test.YtjnefacdindamaaGreatDoorLens
/- lodgelaw14.ExponentHalves answers true, whatever case comes in, and leaves memory below as it was. No condition. -/
namespace Go.Proofs.YtjnefacdindamaaGreatDoor
open Go Go.RowKit Num
set_option linter.unusedVariables false
set_option maxRecDepth 100000

theorem place_left (g : Int) (ds : List Dr) (a b : Int) (l rt : Tr) : placeT (some (.inner a b l rt)) 1 0 = some l := by
  have e : path 1 0 = [false] := rfl
  simp [placeT, okL, e, subO, sub, sub_nil]
theorem place_right (g : Int) (ds : List Dr) (a b : Int) (l rt : Tr) : placeT (some (.inner a b l rt)) 1 1 = some rt := by
  have e : path 1 1 = [true] := rfl
  simp [placeT, okL, e, subO, sub, sub_nil]
set_option maxRecDepth 100000 in
set_option maxHeartbeats 16000000 in
theorem exponentHalves_walk (c : Array Value) (w : World) (h : ∃ x, IsCase w.heap.size w x c.toList) (hT : Tab w) :
    Calls Tryz.prog 4 #[.agg c] w fun e w' => e = .returned (.bool true) ∧ Below w.heap.size w w' := by
  have HTT : Hid (∀ W, Below w.heap.size w W → Tab W) := Lib.hid fun W hb => hT.next hb
  clear hT
  obtain ⟨⟨g, xs, ds, L, I⟩, u, v, hc, hx, hd⟩ := h
  simp only at hc hx hd
  obtain rfl : c = #[.int .i64 g, u, v, .int .i64 L, .int .i64 I] := by rw [← Array.toArray_toList (xs := c), hc]
  obtain ⟨Ax, cx, rfl, -, -⟩ := spots_len hx xs.length rfl
  obtain ⟨Ad, cd, rfl, -, -⟩ := draws_len hd ds.length rfl
  obtain ⟨lx, hlx⟩ : ∃ l, xs.length = l := ⟨_, rfl⟩
  obtain ⟨ld, hld⟩ : ∃ l, ds.length = l := ⟨_, rfl⟩
  rw [hlx] at hx
  rw [hld] at hd
  rw [hlx, hld]
  have HX := Lib.hid hx
  have HD := Lib.hid hd
  have HLX := Lib.hid hlx
  have HLD := Lib.hid hld
  obtain ⟨sb, hb1, hb2⟩ := smallE_any g xs ds
  have HSM := Lib.hid hb2
  clear hx hd hc hb2 hlx hld
  go_enter Tryz.func4, Tryz.ntmps4
  go_wp2_with fail
  obtain ⟨W0, hW0, b0, B⟩ : ∃ W0, w.alloc (.cells #[.int .i64 g, .slice Ax lx cx, .slice Ad ld cd, .int .i64 L, .int .i64 I] 27) = W0 ∧ Box W0 w.heap.size [.int .i64 g, .slice Ax lx cx, .slice Ad ld cd, .int .i64 L, .int .i64 I] ∧ Below w.heap.size w W0 := ⟨_, rfl, Box.new w _ _, below_new _ _⟩
  rw [hW0]
  clear hW0
  replace HX := Lib.hid (keeps_spots _ _ _ _ _ _ HX.out B B.size)
  replace HD := Lib.hid (keeps_draws _ _ _ _ _ _ HD.out B B.size)
  obtain ⟨G0, hG0⟩ : ∃ G, w.heap.size = G := ⟨_, rfl⟩
  rw [hG0] at b0
  try rw [hG0]
  clear hG0
  refine (HSM.out _ _ W0 HX.out HD.out).mono ?_
  rintro e W1 ⟨rfl, hb⟩
  replace HX := Lib.hid (keeps_spots _ _ _ _ _ _ HX.out hb hb.size)
  replace HD := Lib.hid (keeps_draws _ _ _ _ _ _ HD.out hb hb.size)
  replace b0 := b0.next hb
  replace B := B.trans (hb.mono B.size)
  clear hb
  cases sb with
  | false =>
    clear hb1
    go_wp2_with fail
    refine (awake14_any W1 (HTT.out _ B)).mono ?_
    rintro e W9 ⟨rfl, B9⟩
    go_wp2
    go_ret
    exact ⟨rfl, B.trans (B9.mono B.size)⟩
  | true =>
    obtain ⟨hg5, hxl, hdl, hds, ot, rfl, hok⟩ := hb1 rfl
    have hht : htO ot ≤ 60 := ht_small hxl
    have hn : (spo ot).length ≤ 1000000 := by omega
    have hsh : ∀ m ∈ lvO ot, (secL ds m).length ≤ 4 := fun m _ => secL_four hds m
    clear hb1
    have qb00 := b0.c 0 _ rfl
    have qb01 := b0.c 1 _ rfl
    have qb02 := b0.c 2 _ rfl
    have qb03 := b0.c 3 _ rfl
    have qb04 := b0.c 4 _ rfl
    by_cases hgg : g ≠ 0 ∧ g ≠ 1
    · have hg0 : (g != 0) = true := by simp [hgg.1]
      have hg1 : (g != 1) = true := by simp [hgg.2]
      clear hgg
      go_wp2_with fail
      refine (awake14_any W1 (HTT.out _ B)).mono ?_
      rintro e W9 ⟨rfl, B9⟩
      go_wp2
      go_ret
      exact ⟨rfl, B.trans (B9.mono B.size)⟩
    · have hP : P g ≠ 0 := by
        rcases (show g = 0 ∨ g = 1 by omega) with rfl | rfl
        · rw [P_0]; decide
        · rw [P_1]; decide
      have hgd : ((g != 0) && (g != 1)) = false := by
        rcases (show g = 0 ∨ g = 1 by omega) with rfl | rfl <;> rfl
      have HOT : (∃ x y, ot = some (.leaf x y)) ∨ ot = none ∨ ∃ a b l rt, ot = some (.inner a b l rt) := by
        rcases ot with _ | (_ | _)
        · exact Or.inr (Or.inl rfl)
        · exact Or.inl ⟨_, _, rfl⟩
        · exact Or.inr (Or.inr ⟨_, _, _, _, rfl⟩)
      have HFEW : ∀ w', (spo ot).length < 3 → Spots w'.heap.size w' (spo ot) [.slice Ax lx cx] → Calls Tryz.prog 18 #[.slice Ax lx cx] w' fun e W' => e = .returned (.tuple #[.slice none 0 0, .slice none 0 0, .bool false]) ∧ w' = W' := fun w' h1 h2 => refHalves_few _ _ w' h2 h1
      have key : g = 0 ∨ g = 1 := by omega
      by_cases h3 : (spo ot).length < 3
      · have HF := Lib.hid (HFEW W1 h3 HX.out)
        clear HFEW HOT h3 hgg
        rcases key with rfl | rfl
        all_goals
          go_wp2_with fail
          refine HF.out.mono ?_
          rintro e W8 ⟨rfl, rfl⟩
          go_wp2_with fail
          refine (awake14_any W1 (HTT.out _ B)).mono ?_
          rintro e W9 ⟨rfl, B9⟩
          go_wp2
          go_ret
          exact ⟨rfl, B.trans (B9.mono B.size)⟩
      · obtain ⟨a, b, l, rt, rfl⟩ : ∃ a b l rt, ot = some (.inner a b l rt) := by
          rcases HOT with ⟨x, y, rfl⟩ | rfl | h
          · exact absurd (by simp [spo, flat]) h3
          · exact absurd (by simp [spo]) h3
          · exact h
        clear HFEW HOT h3 hgg
        have hfl := flat_inner_len a b l rt
        have hxl2 : (flat (.inner a b l rt)).length ≤ 40 := hxl
        have hol : okT (spo (some l)) = true := okT_sub (t := .inner a b l rt) (p := [false]) hok (show sub (.inner a b l rt) [false] = some (0 + 1, l) by simp [sub, sub_nil])
        have hor : okT (spo (some rt)) = true := okT_sub (t := .inner a b l rt) (p := [true]) hok (show sub (.inner a b l rt) [true] = some (0 + 1 + (flat l).length, rt) by simp [sub, sub_nil])
        have hhl : htO (some l) ≤ 60 := ht_small (by show (flat l).length ≤ 40; omega)
        have hhr : htO (some rt) ≤ 60 := ht_small (by show (flat rt).length ≤ 40; omega)
        have hsl : ∀ m ∈ lvO (some l), (secL ds m).length ≤ 4 := fun m _ => secL_four hds m
        have hsr : ∀ m ∈ lvO (some rt), (secL ds m).length ≤ 4 := fun m _ => secL_four hds m
        have hkl := keyT_len g hds l
        have hkr := keyT_len g hds rt
        have hss := fun (h : ∀ d ∈ ds, isS g d.2.1 = true) => keyT_isS h hP (.inner a b l rt)
        obtain ⟨X, hX⟩ : ∃ X, keyT g ds l = X := ⟨_, rfl⟩
        obtain ⟨Y, hY⟩ : ∃ Y, keyT g ds rt = Y := ⟨_, rfl⟩
        have HK : Hid (keyO g ds (some (.inner a b l rt)) = joinK g X Y) := Lib.hid (by rw [← hX, ← hY]; rfl)
        have HKL : Hid (keyO g ds (some l) = X) := Lib.hid hX
        have HKR : Hid (keyO g ds (some rt) = Y) := Lib.hid hY
        have HB0 : Hid (bliO g ds (some (.inner a b l rt)) 1 0 = if X = [] then [] else bliL g X) := Lib.hid (by unfold bliO; rw [place_left g ds, HKL.out])
        have HB1 : Hid (bliO g ds (some (.inner a b l rt)) 1 1 = if Y = [] then [] else bliL g Y) := Lib.hid (by unfold bliO; rw [place_right g ds, HKR.out])
        rw [hX] at hkl
        rw [hY] at hkr
        have hKe : keyT g ds (.inner a b l rt) = joinK g X Y := HK.out
        rw [hKe] at hss
        have HSS := Lib.hid hss
        have HHV := Lib.hid (refHalves_inner a b l rt _ W1 HX.out hn)
        clear hX hY hKe hss hfl hxl2
        have hg5' : (g == 5) = false := by simp [hg5]
        have hgk : (g != 0 && g != 1) = false := hgd
        rcases key with rfl | rfl
        · go_wp2_with fail
          refine HHV.out.mono ?_
          rintro e W2 ⟨v1, v2, rfl, hv1, hv2, hb⟩
          obtain ⟨A1, c1, rfl, -, -⟩ := spots_len hv1 _ rfl
          obtain ⟨A2, c2, rfl, -, -⟩ := spots_len hv2 _ rfl
          obtain ⟨l1, hl1⟩ : ∃ n, (flat l).length = n := ⟨_, rfl⟩
          obtain ⟨l2, hl2⟩ : ∃ n, (flat rt).length = n := ⟨_, rfl⟩
          rw [hl1] at hv1
          rw [hl2] at hv2
          rw [hl1, hl2]
          have HV1 := Lib.hid hv1
          have HV2 := Lib.hid hv2
          replace HX := Lib.hid (keeps_spots _ _ _ _ _ _ HX.out hb hb.size)
          replace HD := Lib.hid (keeps_draws _ _ _ _ _ _ HD.out hb hb.size)
          replace b0 := b0.next hb
          replace B := B.trans (hb.mono B.size)
          clear hb hv1 hv2 hl1 hl2 HHV qb00 qb01 qb02 qb03 qb04 hgd hgk hg5'
          go_wp2_with fail
          go_loopw [6] (fun iv wr => ∃ (k : Nat) (wq : World), wq = wr ∧ k ≤ ds.length ∧ iv = .int .i64 (k : Int) ∧ Hid (∀ d ∈ ds.take k, isS 0 d.2.1 = true) ∧ Below W2.heap.size W2 wr) (fun iv _ => ds.length - (intOf iv).toNat)
          case atStart => exact ⟨0, _, rfl, Nat.zero_le _, rfl, Lib.hid (fun d hd => by simp at hd), Below.refl _ _⟩
          case round =>
            obtain ⟨k, wr, rfl, hk, rfl, HI, hw⟩ := hrel
            replace HX := Lib.hid (keeps_spots _ _ _ _ _ _ HX.out hw hw.size)
            replace HD := Lib.hid (keeps_draws _ _ _ _ _ _ HD.out hw hw.size)
            replace HV1 := Lib.hid (keeps_spots _ _ _ _ _ _ HV1.out hw hw.size)
            replace HV2 := Lib.hid (keeps_spots _ _ _ _ _ _ HV2.out hw hw.size)
            replace b0 := b0.next hw
            replace B := B.trans (hw.mono B.size)
            have hw2 := hw
            clear hw
            have qb00 := b0.c 0 _ rfl
            have qb01 := b0.c 1 _ rfl
            have qb02 := b0.c 2 _ rfl
            have hdl2 := HLD.out
            by_cases hlt : k < ld
            · have hd : decide (k < ld) = true := decide_eq_true hlt
              have hi : (k : Int) < (ld : Int) := by omega
              have hge : (0 : Int) ≤ (k : Int) := by omega
              have hkd : k < ds.length := by omega
              obtain ⟨_, _, e, -, hc, hp⟩ := draws_at HD.out
              simp only [Value.slice.injEq] at e
              obtain ⟨rfl, -, rfl⟩ := e
              obtain ⟨gd, od, rfl, hgn, -, -, hs2, -⟩ := hp k hkd
              have HTK := Lib.hid (List.take_succ_eq_append_getElem hkd)
              have h4 := hds _ (List.getElem_mem hkd)
              obtain ⟨⟨m, sd, td⟩, hx⟩ : ∃ p : Dr, ds[k] = p := ⟨_, rfl⟩
              rw [hx] at hs2 HTK h4
              simp only at hs2 h4
              clear hp hx hc hdl2
              cases hS : isS 0 sd
              · have HNS := Lib.hid hS
                clear hS
                go_wp2_with fail
                refine wp_region_results (fun r i => ([.pointer (some ⟨G0, 0, none⟩), .int .i64 0, .pointer (some ⟨G0, 2, none⟩), .slice (some ⟨gd, od, none⟩) ld cd, .int .i64 (k : Int), .pointer (some ⟨gd, od + k * 4, none⟩), .pointer (some ⟨gd, od + k * 4 + 2, none⟩), .string (tx sd), .bool false, .bool true] : List Value).getD i undef) [8] [0, 0, 0, 0, 0, 0, 0, 0, 0, 1] (fun r q w' => (Below wr.heap.size wr w')) (by kernel_rfl) (by kernel_rfl) (fun r => ⟨rfl, rfl, rfl, Nat.le_refl _, fun _ _ => rfl⟩) ?_ ?_
                · refine ObsR_of_ends (by kernel_rfl) ?_
                  intro r Fr hEA
                  refine ⟨?_, ?_, ?_, ?_, ?_, ?_, ?_, ?_, ?_, ?_, trivial⟩
                  · refine obR_val (want_none rfl) (by kernel_rfl) (fun ph w' hp hpm hw => ?_)
                    have e1 : Fr.tmps[1]? = some (.pointer (some ⟨G0, 0, none⟩)) := at_out hEA (d := 1) (by kernel_rfl); simp [execOp, e1, go_sem]
                  · refine obR_val (want_none rfl) (by kernel_rfl) (fun ph w' hp hpm hw => ?_)
                    have hc0 := (hw.cell (p := ⟨G0, 0, none⟩) b0.lt).trans (b0.c 0 _ rfl)
                    have e48 : Fr.tmps[48]? = some (.pointer (some ⟨G0, 0, none⟩)) := hEA.dst 0 _ 48 rfl rfl; simp [execOp, e48, hc0, go_sem]
                  · refine obR_val (want_none rfl) (by kernel_rfl) (fun ph w' hp hpm hw => ?_)
                    have e1 : Fr.tmps[1]? = some (.pointer (some ⟨G0, 0, none⟩)) := at_out hEA (d := 1) (by kernel_rfl); simp [execOp, e1, go_sem]
                  · refine obR_val (want_none rfl) (by kernel_rfl) (fun ph w' hp hpm hw => ?_)
                    have hc0 := (hw.cell (p := ⟨G0, 2, none⟩) b0.lt).trans (b0.c 2 _ rfl)
                    have e50 : Fr.tmps[50]? = some (.pointer (some ⟨G0, 2, none⟩)) := hEA.dst 2 _ 50 rfl rfl; simp [execOp, e50, hc0, go_sem]
                  · exact obR_move _ rfl (want_none rfl) (by kernel_rfl) (eval_out hEA (d := 6) (by kernel_rfl))
                  · refine obR_val (want_none rfl) (by kernel_rfl) (fun ph w' hp hpm hw => ?_)
                    have e51 : Fr.tmps[51]? = some (.slice (some ⟨gd, od, none⟩) ld cd) := hEA.dst 3 _ 51 rfl rfl; have e52 : Fr.tmps[52]? = some (.int .i64 (k : Int)) := hEA.dst 4 _ 52 rfl rfl; simp [execOp, e51, e52, hi, hge, go_sem]
                  · refine obR_val (want_none rfl) (by kernel_rfl) (fun ph w' hp hpm hw => ?_)
                    have e53 : Fr.tmps[53]? = some (.pointer (some ⟨gd, od + k * 4, none⟩)) := hEA.dst 5 _ 53 rfl rfl; simp [execOp, e53, go_sem]
                  · refine obR_val (want_none rfl) (by kernel_rfl) (fun ph w' hp hpm hw => ?_)
                    have hc0 := (hw.cell (p := ⟨gd, od + k * 4 + 2, none⟩) hgn).trans hs2
                    have e54 : Fr.tmps[54]? = some (.pointer (some ⟨gd, od + k * 4 + 2, none⟩)) := hEA.dst 6 _ 54 rfl rfl; simp [execOp, e54, hc0, go_sem]
                  · refine obR_call (q := 0) (f := 19) (args := #[.int .i64 0, .string (tx sd)]) (want_none rfl) (by kernel_rfl) (fun w' => by have e49 : Fr.tmps[49]? = some (.int .i64 0) := hEA.dst 1 _ 49 rfl rfl; have e55 : Fr.tmps[55]? = some (.string (tx sd)) := hEA.dst 7 _ 55 rfl rfl; simp [e49, e55, go_sem]) ?_
                    intro w' hw
                    refine ((show Calls _ _ _ _ (fun e W' => e = .returned (.bool false) ∧ Below w'.heap.size w' W') from by have := refRightSL 0 sd w' (by omega); rwa [HNS.out] at this)).mono ?_
                    rintro e w2 ⟨rfl, hb⟩
                    exact ⟨_, rfl, fun r' hr hv => ⟨rfl, hw.trans (hb.mono hw.size)⟩⟩
                  · refine obR_val (want_none rfl) (by kernel_rfl) (fun ph w' hp hpm hw => ?_)
                    have e56 : Fr.tmps[56]? = some (.bool false) := hEA.dst 8 _ 56 rfl rfl; simp [execOp, e56, go_sem]
                · intro r w' hw
                  simp only [laid, Act.put, List.setIfInBounds_toArray, List.set_cons_succ, List.set_cons_zero, List.getD_cons_succ, List.getD_cons_zero, Nat.zero_add, Nat.reduceAdd]
                  obtain ⟨wz, hwz⟩ : ∃ wz, w' = wz := ⟨_, rfl⟩
                  rw [hwz] at hw
                  rw [hwz]
                  have B3 := B.trans (hw.mono B.size)
                  clear hw hwz
                  go_wp2_with fail
                  refine (awake14_any wz (HTT.out _ B3)).mono ?_
                  rintro e W9 ⟨rfl, B9⟩
                  go_wp2
                  go_ret
                  exact ⟨rfl, B3.trans (B9.mono B3.size)⟩
              · have HNS := Lib.hid hS
                have HI2 : Hid (∀ d ∈ ds.take (k + 1), isS 0 d.2.1 = true) := Lib.hid (by
                  rw [HTK.out]
                  intro d hd
                  rcases List.mem_append.1 hd with h | h
                  · exact HI.out d h
                  · simp only [List.mem_singleton] at h
                    subst h
                    exact HNS.out)
                clear hS
                go_wp2_with fail
                refine wp_region_results (fun r i => ([.pointer (some ⟨G0, 0, none⟩), .int .i64 0, .pointer (some ⟨G0, 2, none⟩), .slice (some ⟨gd, od, none⟩) ld cd, .int .i64 (k : Int), .pointer (some ⟨gd, od + k * 4, none⟩), .pointer (some ⟨gd, od + k * 4 + 2, none⟩), .string (tx sd), .bool true, .bool false] : List Value).getD i undef) [8] [0, 0, 0, 0, 0, 0, 0, 0, 0, 1] (fun r q w' => (Below wr.heap.size wr w')) (by kernel_rfl) (by kernel_rfl) (fun r => ⟨rfl, rfl, rfl, Nat.le_refl _, fun _ _ => rfl⟩) ?_ ?_
                · refine ObsR_of_ends (by kernel_rfl) ?_
                  intro r Fr hEA
                  refine ⟨?_, ?_, ?_, ?_, ?_, ?_, ?_, ?_, ?_, ?_, trivial⟩
                  · refine obR_val (want_none rfl) (by kernel_rfl) (fun ph w' hp hpm hw => ?_)
                    have e1 : Fr.tmps[1]? = some (.pointer (some ⟨G0, 0, none⟩)) := at_out hEA (d := 1) (by kernel_rfl); simp [execOp, e1, go_sem]
                  · refine obR_val (want_none rfl) (by kernel_rfl) (fun ph w' hp hpm hw => ?_)
                    have hc0 := (hw.cell (p := ⟨G0, 0, none⟩) b0.lt).trans (b0.c 0 _ rfl)
                    have e48 : Fr.tmps[48]? = some (.pointer (some ⟨G0, 0, none⟩)) := hEA.dst 0 _ 48 rfl rfl; simp [execOp, e48, hc0, go_sem]
                  · refine obR_val (want_none rfl) (by kernel_rfl) (fun ph w' hp hpm hw => ?_)
                    have e1 : Fr.tmps[1]? = some (.pointer (some ⟨G0, 0, none⟩)) := at_out hEA (d := 1) (by kernel_rfl); simp [execOp, e1, go_sem]
                  · refine obR_val (want_none rfl) (by kernel_rfl) (fun ph w' hp hpm hw => ?_)
                    have hc0 := (hw.cell (p := ⟨G0, 2, none⟩) b0.lt).trans (b0.c 2 _ rfl)
                    have e50 : Fr.tmps[50]? = some (.pointer (some ⟨G0, 2, none⟩)) := hEA.dst 2 _ 50 rfl rfl; simp [execOp, e50, hc0, go_sem]
                  · exact obR_move _ rfl (want_none rfl) (by kernel_rfl) (eval_out hEA (d := 6) (by kernel_rfl))
                  · refine obR_val (want_none rfl) (by kernel_rfl) (fun ph w' hp hpm hw => ?_)
                    have e51 : Fr.tmps[51]? = some (.slice (some ⟨gd, od, none⟩) ld cd) := hEA.dst 3 _ 51 rfl rfl; have e52 : Fr.tmps[52]? = some (.int .i64 (k : Int)) := hEA.dst 4 _ 52 rfl rfl; simp [execOp, e51, e52, hi, hge, go_sem]
                  · refine obR_val (want_none rfl) (by kernel_rfl) (fun ph w' hp hpm hw => ?_)
                    have e53 : Fr.tmps[53]? = some (.pointer (some ⟨gd, od + k * 4, none⟩)) := hEA.dst 5 _ 53 rfl rfl; simp [execOp, e53, go_sem]
                  · refine obR_val (want_none rfl) (by kernel_rfl) (fun ph w' hp hpm hw => ?_)
                    have hc0 := (hw.cell (p := ⟨gd, od + k * 4 + 2, none⟩) hgn).trans hs2
                    have e54 : Fr.tmps[54]? = some (.pointer (some ⟨gd, od + k * 4 + 2, none⟩)) := hEA.dst 6 _ 54 rfl rfl; simp [execOp, e54, hc0, go_sem]
                  · refine obR_call (q := 0) (f := 19) (args := #[.int .i64 0, .string (tx sd)]) (want_none rfl) (by kernel_rfl) (fun w' => by have e49 : Fr.tmps[49]? = some (.int .i64 0) := hEA.dst 1 _ 49 rfl rfl; have e55 : Fr.tmps[55]? = some (.string (tx sd)) := hEA.dst 7 _ 55 rfl rfl; simp [e49, e55, go_sem]) ?_
                    intro w' hw
                    refine ((show Calls _ _ _ _ (fun e W' => e = .returned (.bool true) ∧ Below w'.heap.size w' W') from by have := refRightSL 0 sd w' (by omega); rwa [HNS.out] at this)).mono ?_
                    rintro e w2 ⟨rfl, hb⟩
                    exact ⟨_, rfl, fun r' hr hv => ⟨rfl, hw.trans (hb.mono hw.size)⟩⟩
                  · refine obR_val (want_none rfl) (by kernel_rfl) (fun ph w' hp hpm hw => ?_)
                    have e56 : Fr.tmps[56]? = some (.bool true) := hEA.dst 8 _ 56 rfl rfl; simp [execOp, e56, go_sem]
                · intro r w' hw
                  simp only [laid, Act.put, List.setIfInBounds_toArray, List.set_cons_succ, List.set_cons_zero, List.getD_cons_succ, List.getD_cons_zero, Nat.zero_add, Nat.reduceAdd]
                  obtain ⟨wz, hwz⟩ : ∃ wz, w' = wz := ⟨_, rfl⟩
                  rw [hwz] at hw
                  rw [hwz]
                  have hw3 := hw2.trans (hw.mono hw2.size)
                  clear hw hwz
                  go_wp2
                  go_roundw
                  case rel => exact ⟨k + 1, _, rfl, by omega, by go_num, HI2, hw3⟩
                  case measure => simp [intOf]; omega
            · have hd : decide (k < ld) = false := decide_eq_false hlt
              have hall : ∀ d ∈ ds, isS 0 d.2.1 = true := by
                have h := HI.out
                rwa [List.take_of_length_le (by omega)] at h
              have HKS : Hid (joinK 0 X Y ≠ [] → isS 0 (joinK 0 X Y) = true) := Lib.hid (HSS.out hall)
              clear hall HI HSS hdl2 hlt
              go_wp2_with fail
              refine wp_region_results (fun r i => ([.pointer (some ⟨G0, 0, none⟩), .int .i64 0, .slice A1 l1 c1, .pointer (some ⟨G0, 2, none⟩), .slice Ad ld cd, .string (tx X), .pointer (some ⟨G0, 0, none⟩), .int .i64 0, .slice A2 l2 c2, .pointer (some ⟨G0, 2, none⟩), .slice Ad ld cd, .string (tx Y), .string (tx X), .string (tx Y)] : List Value).getD i undef) [5, 11] [0, 0, 0, 0, 0, 0, 0, 0, 0, 0, 0, 1, 1, 2] (fun r q w' => (Below wr.heap.size wr w')) (by kernel_rfl) (by kernel_rfl) (fun r => ⟨rfl, rfl, rfl, Nat.le_refl _, fun _ _ => rfl⟩) ?_ ?_
              · refine ObsR_of_ends (by kernel_rfl) ?_
                intro r Fr hEA
                refine ⟨?_, ?_, ?_, ?_, ?_, ?_, ?_, ?_, ?_, ?_, ?_, ?_, ?_, ?_, trivial⟩
                · refine obR_val (want_none rfl) (by kernel_rfl) (fun ph w' hp hpm hw => ?_)
                  have e1 : Fr.tmps[1]? = some (.pointer (some ⟨G0, 0, none⟩)) := at_out hEA (d := 1) (by kernel_rfl); simp [execOp, e1, go_sem]
                · refine obR_val (want_none rfl) (by kernel_rfl) (fun ph w' hp hpm hw => ?_)
                  have hc0 := (hw.cell (p := ⟨G0, 0, none⟩) b0.lt).trans (b0.c 0 _ rfl)
                  have e59 : Fr.tmps[59]? = some (.pointer (some ⟨G0, 0, none⟩)) := hEA.dst 0 _ 59 rfl rfl; simp [execOp, e59, hc0, go_sem]
                · exact obR_move _ rfl (want_none rfl) (by kernel_rfl) (eval_out hEA (d := 3) (by kernel_rfl))
                · refine obR_val (want_none rfl) (by kernel_rfl) (fun ph w' hp hpm hw => ?_)
                  have e1 : Fr.tmps[1]? = some (.pointer (some ⟨G0, 0, none⟩)) := at_out hEA (d := 1) (by kernel_rfl); simp [execOp, e1, go_sem]
                · refine obR_val (want_none rfl) (by kernel_rfl) (fun ph w' hp hpm hw => ?_)
                  have hc0 := (hw.cell (p := ⟨G0, 2, none⟩) b0.lt).trans (b0.c 2 _ rfl)
                  have e62 : Fr.tmps[62]? = some (.pointer (some ⟨G0, 2, none⟩)) := hEA.dst 3 _ 62 rfl rfl; simp [execOp, e62, hc0, go_sem]
                · refine obR_call (q := 0) (f := 10) (args := #[.int .i64 0, .slice A1 l1 c1, .slice Ad ld cd]) (want_none rfl) (by kernel_rfl) (fun w' => by have e60 : Fr.tmps[60]? = some (.int .i64 0) := hEA.dst 1 _ 60 rfl rfl; have e61 : Fr.tmps[61]? = some (.slice A1 l1 c1) := hEA.dst 2 _ 61 rfl rfl; have e63 : Fr.tmps[63]? = some (.slice Ad ld cd) := hEA.dst 4 _ 63 rfl rfl; simp [e60, e61, e63, go_sem]) ?_
                  intro w' hw
                  refine ((show Calls _ _ _ _ (fun e W' => e = .returned (.string (tx X)) ∧ Below w'.heap.size w' W') from by have := eKey_any 0 ds (some l) _ _ w' (keeps_spots _ _ _ _ _ _ HV1.out hw hw.size) (keeps_draws _ _ _ _ _ _ HD.out hw hw.size) hol hhl hsl; rwa [HKL.out] at this)).mono ?_
                  rintro e w2 ⟨rfl, hb⟩
                  exact ⟨_, rfl, fun r' hr hv => ⟨rfl, hw.trans (hb.mono hw.size)⟩⟩
                · refine obR_val (want_none rfl) (by kernel_rfl) (fun ph w' hp hpm hw => ?_)
                  have e1 : Fr.tmps[1]? = some (.pointer (some ⟨G0, 0, none⟩)) := at_out hEA (d := 1) (by kernel_rfl); simp [execOp, e1, go_sem]
                · refine obR_val (want_none rfl) (by kernel_rfl) (fun ph w' hp hpm hw => ?_)
                  have hc0 := (hw.cell (p := ⟨G0, 0, none⟩) b0.lt).trans (b0.c 0 _ rfl)
                  have e65 : Fr.tmps[65]? = some (.pointer (some ⟨G0, 0, none⟩)) := hEA.dst 6 _ 65 rfl rfl; simp [execOp, e65, hc0, go_sem]
                · exact obR_move _ rfl (want_none rfl) (by kernel_rfl) (eval_out hEA (d := 4) (by kernel_rfl))
                · refine obR_val (want_none rfl) (by kernel_rfl) (fun ph w' hp hpm hw => ?_)
                  have e1 : Fr.tmps[1]? = some (.pointer (some ⟨G0, 0, none⟩)) := at_out hEA (d := 1) (by kernel_rfl); simp [execOp, e1, go_sem]
                · refine obR_val (want_none rfl) (by kernel_rfl) (fun ph w' hp hpm hw => ?_)
                  have hc0 := (hw.cell (p := ⟨G0, 2, none⟩) b0.lt).trans (b0.c 2 _ rfl)
                  have e68 : Fr.tmps[68]? = some (.pointer (some ⟨G0, 2, none⟩)) := hEA.dst 9 _ 68 rfl rfl; simp [execOp, e68, hc0, go_sem]
                · refine obR_call (q := 1) (f := 10) (args := #[.int .i64 0, .slice A2 l2 c2, .slice Ad ld cd]) (want_none rfl) (by kernel_rfl) (fun w' => by have e66 : Fr.tmps[66]? = some (.int .i64 0) := hEA.dst 7 _ 66 rfl rfl; have e67 : Fr.tmps[67]? = some (.slice A2 l2 c2) := hEA.dst 8 _ 67 rfl rfl; have e69 : Fr.tmps[69]? = some (.slice Ad ld cd) := hEA.dst 10 _ 69 rfl rfl; simp [e66, e67, e69, go_sem]) ?_
                  intro w' hw
                  refine ((show Calls _ _ _ _ (fun e W' => e = .returned (.string (tx Y)) ∧ Below w'.heap.size w' W') from by have := eKey_any 0 ds (some rt) _ _ w' (keeps_spots _ _ _ _ _ _ HV2.out hw hw.size) (keeps_draws _ _ _ _ _ _ HD.out hw hw.size) hor hhr hsr; rwa [HKR.out] at this)).mono ?_
                  rintro e w2 ⟨rfl, hb⟩
                  exact ⟨_, rfl, fun r' hr hv => ⟨rfl, hw.trans (hb.mono hw.size)⟩⟩
                · refine obR_val (want_none rfl) (by kernel_rfl) (fun ph w' hp hpm hw => ?_)
                  have e64 : Fr.tmps[64]? = some (.string (tx X)) := hEA.dst 5 _ 64 rfl rfl; simp [execOp, e64, go_sem]
                · refine obR_val (want_none rfl) (by kernel_rfl) (fun ph w' hp hpm hw => ?_)
                  have e70 : Fr.tmps[70]? = some (.string (tx Y)) := hEA.dst 11 _ 70 rfl rfl; simp [execOp, e70, go_sem]
              · intro r w' hw
                simp only [laid, Act.put, List.setIfInBounds_toArray, List.set_cons_succ, List.set_cons_zero, List.getD_cons_succ, List.getD_cons_zero, Nat.zero_add, Nat.reduceAdd]
                obtain ⟨wz, hwz⟩ : ∃ wz, w' = wz := ⟨_, rfl⟩
                rw [hwz] at hw
                rw [hwz]
                have hb := hw
                replace HX := Lib.hid (keeps_spots _ _ _ _ _ _ HX.out hb hb.size)
                replace HD := Lib.hid (keeps_draws _ _ _ _ _ _ HD.out hb hb.size)
                replace b0 := b0.next hb
                replace B := B.trans (hb.mono B.size)
                clear hb
                clear hw hwz HV1 HV2
                try clear qb00 qb01 qb02
                obtain ⟨J, hJ⟩ : ∃ J, joinK 0 X Y = J := ⟨_, rfl⟩
                rw [hJ] at HK HKS
                have hjl := joinK_len 0 X Y
                rw [hJ] at hjl
                have HJ := Lib.hid hJ
                clear hJ
                have hex := tx_none X
                have hey := tx_none Y
                have hej := tx_none J
                have qb00 := b0.c 0 _ rfl
                have qb01 := b0.c 1 _ rfl
                have qb02 := b0.c 2 _ rfl
                go_wp2_with fail
                refine ((show Calls _ _ _ _ (fun e W' => e = .returned (.string (tx J)) ∧ Below wz.heap.size wz W') from by have := eKey_any 0 ds _ _ _ wz HX.out HD.out hok hht hsh; rwa [HK.out] at this)).mono ?_
                rintro e W21 ⟨rfl, hb⟩
                replace HX := Lib.hid (keeps_spots _ _ _ _ _ _ HX.out hb hb.size)
                replace HD := Lib.hid (keeps_draws _ _ _ _ _ _ HD.out hb hb.size)
                replace b0 := b0.next hb
                replace B := B.trans (hb.mono B.size)
                clear hb
                clear qb00 qb01 qb02
                by_cases hX0 : X = []
                · have hJ0 : J = [] := by rw [← HJ.out, joinK, if_pos (Or.inl hX0)]
                  rw [decide_eq_true hX0] at hex
                  rw [decide_eq_true hJ0] at hej
                  clear hX0 hJ0 hey
                  go_wp2_with fail
                  refine (awake14_any W21 (HTT.out _ B)).mono ?_
                  rintro e W22 ⟨rfl, hb⟩
                  replace HX := Lib.hid (keeps_spots _ _ _ _ _ _ HX.out hb hb.size)
                  replace HD := Lib.hid (keeps_draws _ _ _ _ _ _ HD.out hb hb.size)
                  replace b0 := b0.next hb
                  replace B := B.trans (hb.mono B.size)
                  clear hb
                  go_wp2
                  go_ret
                  exact ⟨rfl, B⟩
                · rw [decide_eq_false hX0] at hex
                  by_cases hY0 : Y = []
                  · have hJ0 : J = [] := by rw [← HJ.out, joinK, if_pos (Or.inr hY0)]
                    rw [decide_eq_true hY0] at hey
                    rw [decide_eq_true hJ0] at hej
                    clear hX0 hY0 hJ0
                    go_wp2_with fail
                    refine (awake14_any W21 (HTT.out _ B)).mono ?_
                    rintro e W22 ⟨rfl, hb⟩
                    replace HX := Lib.hid (keeps_spots _ _ _ _ _ _ HX.out hb hb.size)
                    replace HD := Lib.hid (keeps_draws _ _ _ _ _ _ HD.out hb hb.size)
                    replace b0 := b0.next hb
                    replace B := B.trans (hb.mono B.size)
                    clear hb
                    go_wp2
                    go_ret
                    exact ⟨rfl, B⟩
                  · rw [decide_eq_false hY0] at hey
                    have hJe : J = agrL 0 (bliL 0 Y) X := by rw [← HJ.out, joinK, if_neg (by rintro (h | h); exact hX0 h; exact hY0 h)]
                    have HJ1 : Hid (agrL 0 (bliL 0 Y) X = J) := Lib.hid hJe.symm
                    have HJ2 : Hid (agrL 0 (bliL 0 X) Y = J) := Lib.hid (by rw [hJe, agr_sides])
                    have HS1 : Hid (isS 0 J = true) := Lib.hid (HKS.out (by rw [hJe]; exact isS_some (agr_isS _ _ hP)))
                    have HL0 : Hid (bliO 0 ds (some (.inner a b l rt)) 1 0 = bliL 0 X) := Lib.hid (by rw [HB0.out, if_neg hX0])
                    have HL1 : Hid (bliO 0 ds (some (.inner a b l rt)) 1 1 = bliL 0 Y) := Lib.hid (by rw [HB1.out, if_neg hY0])
                    have hbx := bli_len 0 X
                    have hby := bli_len 0 Y
                    clear hX0 hY0 hJe HKS HB0 HB1 hej hP
                    have qb00 := b0.c 0 _ rfl
                    have qb01 := b0.c 1 _ rfl
                    have qb02 := b0.c 2 _ rfl
                    go_wp2_with fail
                    refine ((show Calls _ _ _ _ (fun e W' => e = .returned (.string (tx (bliL 0 X))) ∧ Below W21.heap.size W21 W') from by have := eBlinded_any 0 ds _ 1 0 _ _ W21 HX.out HD.out hok hht hsh; rwa [HL0.out] at this)).mono ?_
                    rintro e W22 ⟨rfl, hb⟩
                    replace HX := Lib.hid (keeps_spots _ _ _ _ _ _ HX.out hb hb.size)
                    replace HD := Lib.hid (keeps_draws _ _ _ _ _ _ HD.out hb hb.size)
                    replace b0 := b0.next hb
                    replace B := B.trans (hb.mono B.size)
                    clear hb
                    clear qb00 qb01 qb02
                    have qb00 := b0.c 0 _ rfl
                    have qb01 := b0.c 1 _ rfl
                    have qb02 := b0.c 2 _ rfl
                    go_wp2_with fail
                    refine ((show Calls _ _ _ _ (fun e W' => e = .returned (.string (tx (bliL 0 Y))) ∧ Below W22.heap.size W22 W') from by have := eBlinded_any 0 ds _ 1 1 _ _ W22 HX.out HD.out hok hht hsh; rwa [HL1.out] at this)).mono ?_
                    rintro e W23 ⟨rfl, hb⟩
                    replace HX := Lib.hid (keeps_spots _ _ _ _ _ _ HX.out hb hb.size)
                    replace HD := Lib.hid (keeps_draws _ _ _ _ _ _ HD.out hb hb.size)
                    replace b0 := b0.next hb
                    replace B := B.trans (hb.mono B.size)
                    clear hb
                    clear qb00 qb01 qb02
                    go_wp2_with fail
                    refine (awake14_any W23 (HTT.out _ B)).mono ?_
                    rintro e W24 ⟨rfl, hb⟩
                    replace HX := Lib.hid (keeps_spots _ _ _ _ _ _ HX.out hb hb.size)
                    replace HD := Lib.hid (keeps_draws _ _ _ _ _ _ HD.out hb hb.size)
                    replace b0 := b0.next hb
                    replace B := B.trans (hb.mono B.size)
                    clear hb
                    have qb00 := b0.c 0 _ rfl
                    have qb01 := b0.c 1 _ rfl
                    have qb02 := b0.c 2 _ rfl
                    go_wp2_with fail
                    refine ((show Calls _ _ _ _ (fun e W' => e = .returned (.string (tx J)) ∧ Below W24.heap.size W24 W') from by have := refAgreeL 0 (bliL 0 Y) X W24 (by omega) (by omega); rwa [HJ1.out] at this)).mono ?_
                    rintro e W25 ⟨rfl, hb⟩
                    replace HX := Lib.hid (keeps_spots _ _ _ _ _ _ HX.out hb hb.size)
                    replace HD := Lib.hid (keeps_draws _ _ _ _ _ _ HD.out hb hb.size)
                    replace b0 := b0.next hb
                    replace B := B.trans (hb.mono B.size)
                    clear hb
                    clear qb00 qb01 qb02
                    have qb00 := b0.c 0 _ rfl
                    have qb01 := b0.c 1 _ rfl
                    have qb02 := b0.c 2 _ rfl
                    go_wp2_with fail
                    refine ((show Calls _ _ _ _ (fun e W' => e = .returned (.string (tx J)) ∧ Below W25.heap.size W25 W') from by have := refAgreeL 0 (bliL 0 X) Y W25 (by omega) (by omega); rwa [HJ2.out] at this)).mono ?_
                    rintro e W26 ⟨rfl, hb⟩
                    replace HX := Lib.hid (keeps_spots _ _ _ _ _ _ HX.out hb hb.size)
                    replace HD := Lib.hid (keeps_draws _ _ _ _ _ _ HD.out hb hb.size)
                    replace b0 := b0.next hb
                    replace B := B.trans (hb.mono B.size)
                    clear hb
                    clear qb00 qb01 qb02
                    have qb00 := b0.c 0 _ rfl
                    have qb01 := b0.c 1 _ rfl
                    have qb02 := b0.c 2 _ rfl
                    go_wp2_with fail
                    refine (refBlindL 0 X W26 (by omega)).mono ?_
                    rintro e W27 ⟨rfl, hb⟩
                    replace HX := Lib.hid (keeps_spots _ _ _ _ _ _ HX.out hb hb.size)
                    replace HD := Lib.hid (keeps_draws _ _ _ _ _ _ HD.out hb hb.size)
                    replace b0 := b0.next hb
                    replace B := B.trans (hb.mono B.size)
                    clear hb
                    clear qb00 qb01 qb02
                    have qb00 := b0.c 0 _ rfl
                    have qb01 := b0.c 1 _ rfl
                    have qb02 := b0.c 2 _ rfl
                    go_wp2_with fail
                    refine (refBlindL 0 Y W27 (by omega)).mono ?_
                    rintro e W28 ⟨rfl, hb⟩
                    replace HX := Lib.hid (keeps_spots _ _ _ _ _ _ HX.out hb hb.size)
                    replace HD := Lib.hid (keeps_draws _ _ _ _ _ _ HD.out hb hb.size)
                    replace b0 := b0.next hb
                    replace B := B.trans (hb.mono B.size)
                    clear hb
                    clear qb00 qb01 qb02
                    have qb00 := b0.c 0 _ rfl
                    have qb01 := b0.c 1 _ rfl
                    have qb02 := b0.c 2 _ rfl
                    go_wp2_with fail
                    refine ((show Calls _ _ _ _ (fun e W' => e = .returned (.bool true) ∧ Below W28.heap.size W28 W') from by have := refRightSL 0 J W28 (by omega); rwa [HS1.out] at this)).mono ?_
                    rintro e W29 ⟨rfl, hb⟩
                    replace HX := Lib.hid (keeps_spots _ _ _ _ _ _ HX.out hb hb.size)
                    replace HD := Lib.hid (keeps_draws _ _ _ _ _ _ HD.out hb hb.size)
                    replace b0 := b0.next hb
                    replace B := B.trans (hb.mono B.size)
                    clear hb
                    clear qb00 qb01 qb02
                    go_wp2
                    go_ret
                    exact ⟨rfl, B⟩
        · go_wp2_with fail
          refine HHV.out.mono ?_
          rintro e W2 ⟨v1, v2, rfl, hv1, hv2, hb⟩
          obtain ⟨A1, c1, rfl, -, -⟩ := spots_len hv1 _ rfl
          obtain ⟨A2, c2, rfl, -, -⟩ := spots_len hv2 _ rfl
          obtain ⟨l1, hl1⟩ : ∃ n, (flat l).length = n := ⟨_, rfl⟩
          obtain ⟨l2, hl2⟩ : ∃ n, (flat rt).length = n := ⟨_, rfl⟩
          rw [hl1] at hv1
          rw [hl2] at hv2
          rw [hl1, hl2]
          have HV1 := Lib.hid hv1
          have HV2 := Lib.hid hv2
          replace HX := Lib.hid (keeps_spots _ _ _ _ _ _ HX.out hb hb.size)
          replace HD := Lib.hid (keeps_draws _ _ _ _ _ _ HD.out hb hb.size)
          replace b0 := b0.next hb
          replace B := B.trans (hb.mono B.size)
          clear hb hv1 hv2 hl1 hl2 HHV qb00 qb01 qb02 qb03 qb04 hgd hgk hg5'
          go_wp2_with fail
          go_loopw [6] (fun iv wr => ∃ (k : Nat) (wq : World), wq = wr ∧ k ≤ ds.length ∧ iv = .int .i64 (k : Int) ∧ Hid (∀ d ∈ ds.take k, isS 1 d.2.1 = true) ∧ Below W2.heap.size W2 wr) (fun iv _ => ds.length - (intOf iv).toNat)
          case atStart => exact ⟨0, _, rfl, Nat.zero_le _, rfl, Lib.hid (fun d hd => by simp at hd), Below.refl _ _⟩
          case round =>
            obtain ⟨k, wr, rfl, hk, rfl, HI, hw⟩ := hrel
            replace HX := Lib.hid (keeps_spots _ _ _ _ _ _ HX.out hw hw.size)
            replace HD := Lib.hid (keeps_draws _ _ _ _ _ _ HD.out hw hw.size)
            replace HV1 := Lib.hid (keeps_spots _ _ _ _ _ _ HV1.out hw hw.size)
            replace HV2 := Lib.hid (keeps_spots _ _ _ _ _ _ HV2.out hw hw.size)
            replace b0 := b0.next hw
            replace B := B.trans (hw.mono B.size)
            have hw2 := hw
            clear hw
            have qb00 := b0.c 0 _ rfl
            have qb01 := b0.c 1 _ rfl
            have qb02 := b0.c 2 _ rfl
            have hdl2 := HLD.out
            by_cases hlt : k < ld
            · have hd : decide (k < ld) = true := decide_eq_true hlt
              have hi : (k : Int) < (ld : Int) := by omega
              have hge : (0 : Int) ≤ (k : Int) := by omega
              have hkd : k < ds.length := by omega
              obtain ⟨_, _, e, -, hc, hp⟩ := draws_at HD.out
              simp only [Value.slice.injEq] at e
              obtain ⟨rfl, -, rfl⟩ := e
              obtain ⟨gd, od, rfl, hgn, -, -, hs2, -⟩ := hp k hkd
              have HTK := Lib.hid (List.take_succ_eq_append_getElem hkd)
              have h4 := hds _ (List.getElem_mem hkd)
              obtain ⟨⟨m, sd, td⟩, hx⟩ : ∃ p : Dr, ds[k] = p := ⟨_, rfl⟩
              rw [hx] at hs2 HTK h4
              simp only at hs2 h4
              clear hp hx hc hdl2
              cases hS : isS 1 sd
              · have HNS := Lib.hid hS
                clear hS
                go_wp2_with fail
                refine wp_region_results (fun r i => ([.pointer (some ⟨G0, 0, none⟩), .int .i64 1, .pointer (some ⟨G0, 2, none⟩), .slice (some ⟨gd, od, none⟩) ld cd, .int .i64 (k : Int), .pointer (some ⟨gd, od + k * 4, none⟩), .pointer (some ⟨gd, od + k * 4 + 2, none⟩), .string (tx sd), .bool false, .bool true] : List Value).getD i undef) [8] [0, 0, 0, 0, 0, 0, 0, 0, 0, 1] (fun r q w' => (Below wr.heap.size wr w')) (by kernel_rfl) (by kernel_rfl) (fun r => ⟨rfl, rfl, rfl, Nat.le_refl _, fun _ _ => rfl⟩) ?_ ?_
                · refine ObsR_of_ends (by kernel_rfl) ?_
                  intro r Fr hEA
                  refine ⟨?_, ?_, ?_, ?_, ?_, ?_, ?_, ?_, ?_, ?_, trivial⟩
                  · refine obR_val (want_none rfl) (by kernel_rfl) (fun ph w' hp hpm hw => ?_)
                    have e1 : Fr.tmps[1]? = some (.pointer (some ⟨G0, 0, none⟩)) := at_out hEA (d := 1) (by kernel_rfl); simp [execOp, e1, go_sem]
                  · refine obR_val (want_none rfl) (by kernel_rfl) (fun ph w' hp hpm hw => ?_)
                    have hc0 := (hw.cell (p := ⟨G0, 0, none⟩) b0.lt).trans (b0.c 0 _ rfl)
                    have e48 : Fr.tmps[48]? = some (.pointer (some ⟨G0, 0, none⟩)) := hEA.dst 0 _ 48 rfl rfl; simp [execOp, e48, hc0, go_sem]
                  · refine obR_val (want_none rfl) (by kernel_rfl) (fun ph w' hp hpm hw => ?_)
                    have e1 : Fr.tmps[1]? = some (.pointer (some ⟨G0, 0, none⟩)) := at_out hEA (d := 1) (by kernel_rfl); simp [execOp, e1, go_sem]
                  · refine obR_val (want_none rfl) (by kernel_rfl) (fun ph w' hp hpm hw => ?_)
                    have hc0 := (hw.cell (p := ⟨G0, 2, none⟩) b0.lt).trans (b0.c 2 _ rfl)
                    have e50 : Fr.tmps[50]? = some (.pointer (some ⟨G0, 2, none⟩)) := hEA.dst 2 _ 50 rfl rfl; simp [execOp, e50, hc0, go_sem]
                  · exact obR_move _ rfl (want_none rfl) (by kernel_rfl) (eval_out hEA (d := 6) (by kernel_rfl))
                  · refine obR_val (want_none rfl) (by kernel_rfl) (fun ph w' hp hpm hw => ?_)
                    have e51 : Fr.tmps[51]? = some (.slice (some ⟨gd, od, none⟩) ld cd) := hEA.dst 3 _ 51 rfl rfl; have e52 : Fr.tmps[52]? = some (.int .i64 (k : Int)) := hEA.dst 4 _ 52 rfl rfl; simp [execOp, e51, e52, hi, hge, go_sem]
                  · refine obR_val (want_none rfl) (by kernel_rfl) (fun ph w' hp hpm hw => ?_)
                    have e53 : Fr.tmps[53]? = some (.pointer (some ⟨gd, od + k * 4, none⟩)) := hEA.dst 5 _ 53 rfl rfl; simp [execOp, e53, go_sem]
                  · refine obR_val (want_none rfl) (by kernel_rfl) (fun ph w' hp hpm hw => ?_)
                    have hc0 := (hw.cell (p := ⟨gd, od + k * 4 + 2, none⟩) hgn).trans hs2
                    have e54 : Fr.tmps[54]? = some (.pointer (some ⟨gd, od + k * 4 + 2, none⟩)) := hEA.dst 6 _ 54 rfl rfl; simp [execOp, e54, hc0, go_sem]
                  · refine obR_call (q := 0) (f := 19) (args := #[.int .i64 1, .string (tx sd)]) (want_none rfl) (by kernel_rfl) (fun w' => by have e49 : Fr.tmps[49]? = some (.int .i64 1) := hEA.dst 1 _ 49 rfl rfl; have e55 : Fr.tmps[55]? = some (.string (tx sd)) := hEA.dst 7 _ 55 rfl rfl; simp [e49, e55, go_sem]) ?_
                    intro w' hw
                    refine ((show Calls _ _ _ _ (fun e W' => e = .returned (.bool false) ∧ Below w'.heap.size w' W') from by have := refRightSL 1 sd w' (by omega); rwa [HNS.out] at this)).mono ?_
                    rintro e w2 ⟨rfl, hb⟩
                    exact ⟨_, rfl, fun r' hr hv => ⟨rfl, hw.trans (hb.mono hw.size)⟩⟩
                  · refine obR_val (want_none rfl) (by kernel_rfl) (fun ph w' hp hpm hw => ?_)
                    have e56 : Fr.tmps[56]? = some (.bool false) := hEA.dst 8 _ 56 rfl rfl; simp [execOp, e56, go_sem]
                · intro r w' hw
                  simp only [laid, Act.put, List.setIfInBounds_toArray, List.set_cons_succ, List.set_cons_zero, List.getD_cons_succ, List.getD_cons_zero, Nat.zero_add, Nat.reduceAdd]
                  obtain ⟨wz, hwz⟩ : ∃ wz, w' = wz := ⟨_, rfl⟩
                  rw [hwz] at hw
                  rw [hwz]
                  have B3 := B.trans (hw.mono B.size)
                  clear hw hwz
                  go_wp2_with fail
                  refine (awake14_any wz (HTT.out _ B3)).mono ?_
                  rintro e W9 ⟨rfl, B9⟩
                  go_wp2
                  go_ret
                  exact ⟨rfl, B3.trans (B9.mono B3.size)⟩
              · have HNS := Lib.hid hS
                have HI2 : Hid (∀ d ∈ ds.take (k + 1), isS 1 d.2.1 = true) := Lib.hid (by
                  rw [HTK.out]
                  intro d hd
                  rcases List.mem_append.1 hd with h | h
                  · exact HI.out d h
                  · simp only [List.mem_singleton] at h
                    subst h
                    exact HNS.out)
                clear hS
                go_wp2_with fail
                refine wp_region_results (fun r i => ([.pointer (some ⟨G0, 0, none⟩), .int .i64 1, .pointer (some ⟨G0, 2, none⟩), .slice (some ⟨gd, od, none⟩) ld cd, .int .i64 (k : Int), .pointer (some ⟨gd, od + k * 4, none⟩), .pointer (some ⟨gd, od + k * 4 + 2, none⟩), .string (tx sd), .bool true, .bool false] : List Value).getD i undef) [8] [0, 0, 0, 0, 0, 0, 0, 0, 0, 1] (fun r q w' => (Below wr.heap.size wr w')) (by kernel_rfl) (by kernel_rfl) (fun r => ⟨rfl, rfl, rfl, Nat.le_refl _, fun _ _ => rfl⟩) ?_ ?_
                · refine ObsR_of_ends (by kernel_rfl) ?_
                  intro r Fr hEA
                  refine ⟨?_, ?_, ?_, ?_, ?_, ?_, ?_, ?_, ?_, ?_, trivial⟩
                  · refine obR_val (want_none rfl) (by kernel_rfl) (fun ph w' hp hpm hw => ?_)
                    have e1 : Fr.tmps[1]? = some (.pointer (some ⟨G0, 0, none⟩)) := at_out hEA (d := 1) (by kernel_rfl); simp [execOp, e1, go_sem]
                  · refine obR_val (want_none rfl) (by kernel_rfl) (fun ph w' hp hpm hw => ?_)
                    have hc0 := (hw.cell (p := ⟨G0, 0, none⟩) b0.lt).trans (b0.c 0 _ rfl)
                    have e48 : Fr.tmps[48]? = some (.pointer (some ⟨G0, 0, none⟩)) := hEA.dst 0 _ 48 rfl rfl; simp [execOp, e48, hc0, go_sem]
                  · refine obR_val (want_none rfl) (by kernel_rfl) (fun ph w' hp hpm hw => ?_)
                    have e1 : Fr.tmps[1]? = some (.pointer (some ⟨G0, 0, none⟩)) := at_out hEA (d := 1) (by kernel_rfl); simp [execOp, e1, go_sem]
                  · refine obR_val (want_none rfl) (by kernel_rfl) (fun ph w' hp hpm hw => ?_)
                    have hc0 := (hw.cell (p := ⟨G0, 2, none⟩) b0.lt).trans (b0.c 2 _ rfl)
                    have e50 : Fr.tmps[50]? = some (.pointer (some ⟨G0, 2, none⟩)) := hEA.dst 2 _ 50 rfl rfl; simp [execOp, e50, hc0, go_sem]
                  · exact obR_move _ rfl (want_none rfl) (by kernel_rfl) (eval_out hEA (d := 6) (by kernel_rfl))
                  · refine obR_val (want_none rfl) (by kernel_rfl) (fun ph w' hp hpm hw => ?_)
                    have e51 : Fr.tmps[51]? = some (.slice (some ⟨gd, od, none⟩) ld cd) := hEA.dst 3 _ 51 rfl rfl; have e52 : Fr.tmps[52]? = some (.int .i64 (k : Int)) := hEA.dst 4 _ 52 rfl rfl; simp [execOp, e51, e52, hi, hge, go_sem]
                  · refine obR_val (want_none rfl) (by kernel_rfl) (fun ph w' hp hpm hw => ?_)
                    have e53 : Fr.tmps[53]? = some (.pointer (some ⟨gd, od + k * 4, none⟩)) := hEA.dst 5 _ 53 rfl rfl; simp [execOp, e53, go_sem]
                  · refine obR_val (want_none rfl) (by kernel_rfl) (fun ph w' hp hpm hw => ?_)
                    have hc0 := (hw.cell (p := ⟨gd, od + k * 4 + 2, none⟩) hgn).trans hs2
                    have e54 : Fr.tmps[54]? = some (.pointer (some ⟨gd, od + k * 4 + 2, none⟩)) := hEA.dst 6 _ 54 rfl rfl; simp [execOp, e54, hc0, go_sem]
                  · refine obR_call (q := 0) (f := 19) (args := #[.int .i64 1, .string (tx sd)]) (want_none rfl) (by kernel_rfl) (fun w' => by have e49 : Fr.tmps[49]? = some (.int .i64 1) := hEA.dst 1 _ 49 rfl rfl; have e55 : Fr.tmps[55]? = some (.string (tx sd)) := hEA.dst 7 _ 55 rfl rfl; simp [e49, e55, go_sem]) ?_
                    intro w' hw
                    refine ((show Calls _ _ _ _ (fun e W' => e = .returned (.bool true) ∧ Below w'.heap.size w' W') from by have := refRightSL 1 sd w' (by omega); rwa [HNS.out] at this)).mono ?_
                    rintro e w2 ⟨rfl, hb⟩
                    exact ⟨_, rfl, fun r' hr hv => ⟨rfl, hw.trans (hb.mono hw.size)⟩⟩
                  · refine obR_val (want_none rfl) (by kernel_rfl) (fun ph w' hp hpm hw => ?_)
                    have e56 : Fr.tmps[56]? = some (.bool true) := hEA.dst 8 _ 56 rfl rfl; simp [execOp, e56, go_sem]
                · intro r w' hw
                  simp only [laid, Act.put, List.setIfInBounds_toArray, List.set_cons_succ, List.set_cons_zero, List.getD_cons_succ, List.getD_cons_zero, Nat.zero_add, Nat.reduceAdd]
                  obtain ⟨wz, hwz⟩ : ∃ wz, w' = wz := ⟨_, rfl⟩
                  rw [hwz] at hw
                  rw [hwz]
                  have hw3 := hw2.trans (hw.mono hw2.size)
                  clear hw hwz
                  go_wp2
                  go_roundw
                  case rel => exact ⟨k + 1, _, rfl, by omega, by go_num, HI2, hw3⟩
                  case measure => simp [intOf]; omega
            · have hd : decide (k < ld) = false := decide_eq_false hlt
              have hall : ∀ d ∈ ds, isS 1 d.2.1 = true := by
                have h := HI.out
                rwa [List.take_of_length_le (by omega)] at h
              have HKS : Hid (joinK 1 X Y ≠ [] → isS 1 (joinK 1 X Y) = true) := Lib.hid (HSS.out hall)
              clear hall HI HSS hdl2 hlt
              go_wp2_with fail
              refine wp_region_results (fun r i => ([.pointer (some ⟨G0, 0, none⟩), .int .i64 1, .slice A1 l1 c1, .pointer (some ⟨G0, 2, none⟩), .slice Ad ld cd, .string (tx X), .pointer (some ⟨G0, 0, none⟩), .int .i64 1, .slice A2 l2 c2, .pointer (some ⟨G0, 2, none⟩), .slice Ad ld cd, .string (tx Y), .string (tx X), .string (tx Y)] : List Value).getD i undef) [5, 11] [0, 0, 0, 0, 0, 0, 0, 0, 0, 0, 0, 1, 1, 2] (fun r q w' => (Below wr.heap.size wr w')) (by kernel_rfl) (by kernel_rfl) (fun r => ⟨rfl, rfl, rfl, Nat.le_refl _, fun _ _ => rfl⟩) ?_ ?_
              · refine ObsR_of_ends (by kernel_rfl) ?_
                intro r Fr hEA
                refine ⟨?_, ?_, ?_, ?_, ?_, ?_, ?_, ?_, ?_, ?_, ?_, ?_, ?_, ?_, trivial⟩
                · refine obR_val (want_none rfl) (by kernel_rfl) (fun ph w' hp hpm hw => ?_)
                  have e1 : Fr.tmps[1]? = some (.pointer (some ⟨G0, 0, none⟩)) := at_out hEA (d := 1) (by kernel_rfl); simp [execOp, e1, go_sem]
                · refine obR_val (want_none rfl) (by kernel_rfl) (fun ph w' hp hpm hw => ?_)
                  have hc0 := (hw.cell (p := ⟨G0, 0, none⟩) b0.lt).trans (b0.c 0 _ rfl)
                  have e59 : Fr.tmps[59]? = some (.pointer (some ⟨G0, 0, none⟩)) := hEA.dst 0 _ 59 rfl rfl; simp [execOp, e59, hc0, go_sem]
                · exact obR_move _ rfl (want_none rfl) (by kernel_rfl) (eval_out hEA (d := 3) (by kernel_rfl))
                · refine obR_val (want_none rfl) (by kernel_rfl) (fun ph w' hp hpm hw => ?_)
                  have e1 : Fr.tmps[1]? = some (.pointer (some ⟨G0, 0, none⟩)) := at_out hEA (d := 1) (by kernel_rfl); simp [execOp, e1, go_sem]
                · refine obR_val (want_none rfl) (by kernel_rfl) (fun ph w' hp hpm hw => ?_)
                  have hc0 := (hw.cell (p := ⟨G0, 2, none⟩) b0.lt).trans (b0.c 2 _ rfl)
                  have e62 : Fr.tmps[62]? = some (.pointer (some ⟨G0, 2, none⟩)) := hEA.dst 3 _ 62 rfl rfl; simp [execOp, e62, hc0, go_sem]
                · refine obR_call (q := 0) (f := 10) (args := #[.int .i64 1, .slice A1 l1 c1, .slice Ad ld cd]) (want_none rfl) (by kernel_rfl) (fun w' => by have e60 : Fr.tmps[60]? = some (.int .i64 1) := hEA.dst 1 _ 60 rfl rfl; have e61 : Fr.tmps[61]? = some (.slice A1 l1 c1) := hEA.dst 2 _ 61 rfl rfl; have e63 : Fr.tmps[63]? = some (.slice Ad ld cd) := hEA.dst 4 _ 63 rfl rfl; simp [e60, e61, e63, go_sem]) ?_
                  intro w' hw
                  refine ((show Calls _ _ _ _ (fun e W' => e = .returned (.string (tx X)) ∧ Below w'.heap.size w' W') from by have := eKey_any 1 ds (some l) _ _ w' (keeps_spots _ _ _ _ _ _ HV1.out hw hw.size) (keeps_draws _ _ _ _ _ _ HD.out hw hw.size) hol hhl hsl; rwa [HKL.out] at this)).mono ?_
                  rintro e w2 ⟨rfl, hb⟩
                  exact ⟨_, rfl, fun r' hr hv => ⟨rfl, hw.trans (hb.mono hw.size)⟩⟩
                · refine obR_val (want_none rfl) (by kernel_rfl) (fun ph w' hp hpm hw => ?_)
                  have e1 : Fr.tmps[1]? = some (.pointer (some ⟨G0, 0, none⟩)) := at_out hEA (d := 1) (by kernel_rfl); simp [execOp, e1, go_sem]
                · refine obR_val (want_none rfl) (by kernel_rfl) (fun ph w' hp hpm hw => ?_)
                  have hc0 := (hw.cell (p := ⟨G0, 0, none⟩) b0.lt).trans (b0.c 0 _ rfl)
                  have e65 : Fr.tmps[65]? = some (.pointer (some ⟨G0, 0, none⟩)) := hEA.dst 6 _ 65 rfl rfl; simp [execOp, e65, hc0, go_sem]
                · exact obR_move _ rfl (want_none rfl) (by kernel_rfl) (eval_out hEA (d := 4) (by kernel_rfl))
                · refine obR_val (want_none rfl) (by kernel_rfl) (fun ph w' hp hpm hw => ?_)
                  have e1 : Fr.tmps[1]? = some (.pointer (some ⟨G0, 0, none⟩)) := at_out hEA (d := 1) (by kernel_rfl); simp [execOp, e1, go_sem]
                · refine obR_val (want_none rfl) (by kernel_rfl) (fun ph w' hp hpm hw => ?_)
                  have hc0 := (hw.cell (p := ⟨G0, 2, none⟩) b0.lt).trans (b0.c 2 _ rfl)
                  have e68 : Fr.tmps[68]? = some (.pointer (some ⟨G0, 2, none⟩)) := hEA.dst 9 _ 68 rfl rfl; simp [execOp, e68, hc0, go_sem]
                · refine obR_call (q := 1) (f := 10) (args := #[.int .i64 1, .slice A2 l2 c2, .slice Ad ld cd]) (want_none rfl) (by kernel_rfl) (fun w' => by have e66 : Fr.tmps[66]? = some (.int .i64 1) := hEA.dst 7 _ 66 rfl rfl; have e67 : Fr.tmps[67]? = some (.slice A2 l2 c2) := hEA.dst 8 _ 67 rfl rfl; have e69 : Fr.tmps[69]? = some (.slice Ad ld cd) := hEA.dst 10 _ 69 rfl rfl; simp [e66, e67, e69, go_sem]) ?_
                  intro w' hw
                  refine ((show Calls _ _ _ _ (fun e W' => e = .returned (.string (tx Y)) ∧ Below w'.heap.size w' W') from by have := eKey_any 1 ds (some rt) _ _ w' (keeps_spots _ _ _ _ _ _ HV2.out hw hw.size) (keeps_draws _ _ _ _ _ _ HD.out hw hw.size) hor hhr hsr; rwa [HKR.out] at this)).mono ?_
                  rintro e w2 ⟨rfl, hb⟩
                  exact ⟨_, rfl, fun r' hr hv => ⟨rfl, hw.trans (hb.mono hw.size)⟩⟩
                · refine obR_val (want_none rfl) (by kernel_rfl) (fun ph w' hp hpm hw => ?_)
                  have e64 : Fr.tmps[64]? = some (.string (tx X)) := hEA.dst 5 _ 64 rfl rfl; simp [execOp, e64, go_sem]
                · refine obR_val (want_none rfl) (by kernel_rfl) (fun ph w' hp hpm hw => ?_)
                  have e70 : Fr.tmps[70]? = some (.string (tx Y)) := hEA.dst 11 _ 70 rfl rfl; simp [execOp, e70, go_sem]
              · intro r w' hw
                simp only [laid, Act.put, List.setIfInBounds_toArray, List.set_cons_succ, List.set_cons_zero, List.getD_cons_succ, List.getD_cons_zero, Nat.zero_add, Nat.reduceAdd]
                obtain ⟨wz, hwz⟩ : ∃ wz, w' = wz := ⟨_, rfl⟩
                rw [hwz] at hw
                rw [hwz]
                have hb := hw
                replace HX := Lib.hid (keeps_spots _ _ _ _ _ _ HX.out hb hb.size)
                replace HD := Lib.hid (keeps_draws _ _ _ _ _ _ HD.out hb hb.size)
                replace b0 := b0.next hb
                replace B := B.trans (hb.mono B.size)
                clear hb
                clear hw hwz HV1 HV2
                try clear qb00 qb01 qb02
                obtain ⟨J, hJ⟩ : ∃ J, joinK 1 X Y = J := ⟨_, rfl⟩
                rw [hJ] at HK HKS
                have hjl := joinK_len 1 X Y
                rw [hJ] at hjl
                have HJ := Lib.hid hJ
                clear hJ
                have hex := tx_none X
                have hey := tx_none Y
                have hej := tx_none J
                have qb00 := b0.c 0 _ rfl
                have qb01 := b0.c 1 _ rfl
                have qb02 := b0.c 2 _ rfl
                go_wp2_with fail
                refine ((show Calls _ _ _ _ (fun e W' => e = .returned (.string (tx J)) ∧ Below wz.heap.size wz W') from by have := eKey_any 1 ds _ _ _ wz HX.out HD.out hok hht hsh; rwa [HK.out] at this)).mono ?_
                rintro e W21 ⟨rfl, hb⟩
                replace HX := Lib.hid (keeps_spots _ _ _ _ _ _ HX.out hb hb.size)
                replace HD := Lib.hid (keeps_draws _ _ _ _ _ _ HD.out hb hb.size)
                replace b0 := b0.next hb
                replace B := B.trans (hb.mono B.size)
                clear hb
                clear qb00 qb01 qb02
                by_cases hX0 : X = []
                · have hJ0 : J = [] := by rw [← HJ.out, joinK, if_pos (Or.inl hX0)]
                  rw [decide_eq_true hX0] at hex
                  rw [decide_eq_true hJ0] at hej
                  clear hX0 hJ0 hey
                  go_wp2_with fail
                  refine (awake14_any W21 (HTT.out _ B)).mono ?_
                  rintro e W22 ⟨rfl, hb⟩
                  replace HX := Lib.hid (keeps_spots _ _ _ _ _ _ HX.out hb hb.size)
                  replace HD := Lib.hid (keeps_draws _ _ _ _ _ _ HD.out hb hb.size)
                  replace b0 := b0.next hb
                  replace B := B.trans (hb.mono B.size)
                  clear hb
                  go_wp2
                  go_ret
                  exact ⟨rfl, B⟩
                · rw [decide_eq_false hX0] at hex
                  by_cases hY0 : Y = []
                  · have hJ0 : J = [] := by rw [← HJ.out, joinK, if_pos (Or.inr hY0)]
                    rw [decide_eq_true hY0] at hey
                    rw [decide_eq_true hJ0] at hej
                    clear hX0 hY0 hJ0
                    go_wp2_with fail
                    refine (awake14_any W21 (HTT.out _ B)).mono ?_
                    rintro e W22 ⟨rfl, hb⟩
                    replace HX := Lib.hid (keeps_spots _ _ _ _ _ _ HX.out hb hb.size)
                    replace HD := Lib.hid (keeps_draws _ _ _ _ _ _ HD.out hb hb.size)
                    replace b0 := b0.next hb
                    replace B := B.trans (hb.mono B.size)
                    clear hb
                    go_wp2
                    go_ret
                    exact ⟨rfl, B⟩
                  · rw [decide_eq_false hY0] at hey
                    have hJe : J = agrL 1 (bliL 1 Y) X := by rw [← HJ.out, joinK, if_neg (by rintro (h | h); exact hX0 h; exact hY0 h)]
                    have HJ1 : Hid (agrL 1 (bliL 1 Y) X = J) := Lib.hid hJe.symm
                    have HJ2 : Hid (agrL 1 (bliL 1 X) Y = J) := Lib.hid (by rw [hJe, agr_sides])
                    have HS1 : Hid (isS 1 J = true) := Lib.hid (HKS.out (by rw [hJe]; exact isS_some (agr_isS _ _ hP)))
                    have HL0 : Hid (bliO 1 ds (some (.inner a b l rt)) 1 0 = bliL 1 X) := Lib.hid (by rw [HB0.out, if_neg hX0])
                    have HL1 : Hid (bliO 1 ds (some (.inner a b l rt)) 1 1 = bliL 1 Y) := Lib.hid (by rw [HB1.out, if_neg hY0])
                    have hbx := bli_len 1 X
                    have hby := bli_len 1 Y
                    clear hX0 hY0 hJe HKS HB0 HB1 hej hP
                    have qb00 := b0.c 0 _ rfl
                    have qb01 := b0.c 1 _ rfl
                    have qb02 := b0.c 2 _ rfl
                    go_wp2_with fail
                    refine ((show Calls _ _ _ _ (fun e W' => e = .returned (.string (tx (bliL 1 X))) ∧ Below W21.heap.size W21 W') from by have := eBlinded_any 1 ds _ 1 0 _ _ W21 HX.out HD.out hok hht hsh; rwa [HL0.out] at this)).mono ?_
                    rintro e W22 ⟨rfl, hb⟩
                    replace HX := Lib.hid (keeps_spots _ _ _ _ _ _ HX.out hb hb.size)
                    replace HD := Lib.hid (keeps_draws _ _ _ _ _ _ HD.out hb hb.size)
                    replace b0 := b0.next hb
                    replace B := B.trans (hb.mono B.size)
                    clear hb
                    clear qb00 qb01 qb02
                    have qb00 := b0.c 0 _ rfl
                    have qb01 := b0.c 1 _ rfl
                    have qb02 := b0.c 2 _ rfl
                    go_wp2_with fail
                    refine ((show Calls _ _ _ _ (fun e W' => e = .returned (.string (tx (bliL 1 Y))) ∧ Below W22.heap.size W22 W') from by have := eBlinded_any 1 ds _ 1 1 _ _ W22 HX.out HD.out hok hht hsh; rwa [HL1.out] at this)).mono ?_
                    rintro e W23 ⟨rfl, hb⟩
                    replace HX := Lib.hid (keeps_spots _ _ _ _ _ _ HX.out hb hb.size)
                    replace HD := Lib.hid (keeps_draws _ _ _ _ _ _ HD.out hb hb.size)
                    replace b0 := b0.next hb
                    replace B := B.trans (hb.mono B.size)
                    clear hb
                    clear qb00 qb01 qb02
                    go_wp2_with fail
                    refine (awake14_any W23 (HTT.out _ B)).mono ?_
                    rintro e W24 ⟨rfl, hb⟩
                    replace HX := Lib.hid (keeps_spots _ _ _ _ _ _ HX.out hb hb.size)
                    replace HD := Lib.hid (keeps_draws _ _ _ _ _ _ HD.out hb hb.size)
                    replace b0 := b0.next hb
                    replace B := B.trans (hb.mono B.size)
                    clear hb
                    have qb00 := b0.c 0 _ rfl
                    have qb01 := b0.c 1 _ rfl
                    have qb02 := b0.c 2 _ rfl
                    go_wp2_with fail
                    refine ((show Calls _ _ _ _ (fun e W' => e = .returned (.string (tx J)) ∧ Below W24.heap.size W24 W') from by have := refAgreeL 1 (bliL 1 Y) X W24 (by omega) (by omega); rwa [HJ1.out] at this)).mono ?_
                    rintro e W25 ⟨rfl, hb⟩
                    replace HX := Lib.hid (keeps_spots _ _ _ _ _ _ HX.out hb hb.size)
                    replace HD := Lib.hid (keeps_draws _ _ _ _ _ _ HD.out hb hb.size)
                    replace b0 := b0.next hb
                    replace B := B.trans (hb.mono B.size)
                    clear hb
                    clear qb00 qb01 qb02
                    have qb00 := b0.c 0 _ rfl
                    have qb01 := b0.c 1 _ rfl
                    have qb02 := b0.c 2 _ rfl
                    go_wp2_with fail
                    refine ((show Calls _ _ _ _ (fun e W' => e = .returned (.string (tx J)) ∧ Below W25.heap.size W25 W') from by have := refAgreeL 1 (bliL 1 X) Y W25 (by omega) (by omega); rwa [HJ2.out] at this)).mono ?_
                    rintro e W26 ⟨rfl, hb⟩
                    replace HX := Lib.hid (keeps_spots _ _ _ _ _ _ HX.out hb hb.size)
                    replace HD := Lib.hid (keeps_draws _ _ _ _ _ _ HD.out hb hb.size)
                    replace b0 := b0.next hb
                    replace B := B.trans (hb.mono B.size)
                    clear hb
                    clear qb00 qb01 qb02
                    have qb00 := b0.c 0 _ rfl
                    have qb01 := b0.c 1 _ rfl
                    have qb02 := b0.c 2 _ rfl
                    go_wp2_with fail
                    refine (refBlindL 1 X W26 (by omega)).mono ?_
                    rintro e W27 ⟨rfl, hb⟩
                    replace HX := Lib.hid (keeps_spots _ _ _ _ _ _ HX.out hb hb.size)
                    replace HD := Lib.hid (keeps_draws _ _ _ _ _ _ HD.out hb hb.size)
                    replace b0 := b0.next hb
                    replace B := B.trans (hb.mono B.size)
                    clear hb
                    clear qb00 qb01 qb02
                    have qb00 := b0.c 0 _ rfl
                    have qb01 := b0.c 1 _ rfl
                    have qb02 := b0.c 2 _ rfl
                    go_wp2_with fail
                    refine (refBlindL 1 Y W27 (by omega)).mono ?_
                    rintro e W28 ⟨rfl, hb⟩
                    replace HX := Lib.hid (keeps_spots _ _ _ _ _ _ HX.out hb hb.size)
                    replace HD := Lib.hid (keeps_draws _ _ _ _ _ _ HD.out hb hb.size)
                    replace b0 := b0.next hb
                    replace B := B.trans (hb.mono B.size)
                    clear hb
                    clear qb00 qb01 qb02
                    have qb00 := b0.c 0 _ rfl
                    have qb01 := b0.c 1 _ rfl
                    have qb02 := b0.c 2 _ rfl
                    go_wp2_with fail
                    refine ((show Calls _ _ _ _ (fun e W' => e = .returned (.bool true) ∧ Below W28.heap.size W28 W') from by have := refRightSL 1 J W28 (by omega); rwa [HS1.out] at this)).mono ?_
                    rintro e W29 ⟨rfl, hb⟩
                    replace HX := Lib.hid (keeps_spots _ _ _ _ _ _ HX.out hb hb.size)
                    replace HD := Lib.hid (keeps_draws _ _ _ _ _ _ HD.out hb hb.size)
                    replace b0 := b0.next hb
                    replace B := B.trans (hb.mono B.size)
                    clear hb
                    clear qb00 qb01 qb02
                    go_wp2
                    go_ret
                    exact ⟨rfl, B⟩

end Go.Proofs.YtjnefacdindamaaGreatDoor
