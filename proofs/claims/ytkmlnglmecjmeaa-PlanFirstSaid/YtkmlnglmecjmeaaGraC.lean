import Derived.Test.YtkmlnglmecjmeaaPlcC
import Derived.Test.YtkmlnglmecjmeaaSrtC
import Derived.Test.YtkmlnglmecjmeaaLabCA
import Derived.Test.YtkmlnglmecjmeaaPhaseA
/- Layer 12's calls as landed: Place, Put, Graft, Merge. Conditions: the slices read as trees' spots that may be, or nothings'; trees of at most 20 in height; of Merge at most 8 of at most 5, with no member twice, and at most 60 members. -/
namespace Go.Proofs.Ytkmlnglmecjmeaa
open Go Go.RowKit
set_option linter.unusedVariables false

theorem gPlace_low (v : Value) (x : Option Tr) (h : Int) (w : World) (hx : Spots w.heap.size w (spo x) [v]) (hk : okT (spo x) = true) (hh : htO x ≤ 20) (h0 : -1 ≤ h) (h1 : h ≤ 1000) :
    Calls Try.prog 50 #[v, .int .i64 h] w fun e W' => e = .returned (vM (placeO x h).1 (placeO x h).2) ∧ Below w.heap.size w W' :=
  callsIn_wide.1 (place_in v x h w hx hk hh h0 h1)
theorem gPlace_any (v : Value) (x : Option Tr) (h : Int) (w : World) (hx : Spots w.heap.size w (spo x) [v]) (hk : okT (spo x) = true) (hh : htO x ≤ 20) (h0 : 0 ≤ h) (h1 : h ≤ 100) :
    Calls Try.prog 50 #[v, .int .i64 h] w fun e W' => e = .returned (vM (placeO x h).1 (placeO x h).2) ∧ Below w.heap.size w W' :=
  gPlace_low v x h w hx hk hh (by omega) (by omega)
theorem joinT_any (u v : Value) (a b : List Sp) (w : World) (ha : Spots w.heap.size w a [u]) (hb : Spots w.heap.size w b [v]) (hl : a.length + b.length ≤ 900000) :
    Calls Try.prog 67 #[u, v] w fun e W' => ∃ v', e = .returned v' ∧ Spots W'.heap.size W' (joinS a b) [v'] ∧ Below w.heap.size w W' := by
  by_cases h0 : a = []
  · subst h0
    have e : joinS [] b = [] ++ b := by unfold joinS; rw [if_pos rfl]; rfl
    rw [e]
    exact join_none u v [] b w ha hb (Or.inl rfl) (by omega)
  · by_cases h1 : b = []
    · subst h1
      have e : joinS a [] = a ++ [] := by unfold joinS; rw [if_neg h0, if_pos rfl]; simp
      rw [e]
      exact join_none u v a [] w ha hb (Or.inr rfl) (by omega)
    · have e : joinS a b = (false, 0, 0) :: (a ++ b) := by unfold joinS; rw [if_neg h0, if_neg h1]
      rw [e]
      exact join_both u v a b w ha hb (fun h => h0 (List.eq_nil_of_length_eq_zero h)) (fun h => h1 (List.eq_nil_of_length_eq_zero h)) hl
set_option maxRecDepth 100000 in
set_option maxHeartbeats 8000000 in
theorem gPut_any (v u : Value) (x y : Option Tr) (L I : Int) (w : World) (hx : Spots w.heap.size w (spo x) [v]) (hy : Spots w.heap.size w (spo y) [u]) (hk : okT (spo x) = true) (hk' : okT (spo y) = true) (hh : htO x ≤ 20) (hh' : htO y ≤ 60) :
    Calls Try.prog 49 #[v, vM L I, u] w fun e W' => ∃ v', e = .returned v' ∧ Spots W'.heap.size W' (spo (putO x L I y)) [v'] ∧ Below w.heap.size w W' := by
  have HX := Lib.hid hx
  have HY := Lib.hid hy
  have hxl := spo_short hk
  have hyl := spo_short hk'
  obtain ⟨A, cap, rfl, hlc, hcm, _⟩ := spots_at hx
  have hcm2 : cap ≤ 9223372036854775807 := Nat.le_trans hcm (by decide)
  clear hx hy hcm
  go_enter Try.func49, Try.ntmps49
  go_wp2_with fail
  obtain ⟨W0, hW0, b4, B⟩ : ∃ W0, w.alloc (.cells #[.int .i64 L, .int .i64 I] 85) = W0 ∧ Box W0 w.heap.size [.int .i64 L, .int .i64 I] ∧ Below w.heap.size w W0 := ⟨_, rfl, Box.new w _ _, below_new _ _⟩
  rw [hW0]
  clear hW0
  replace HX := Lib.hid (keeps_spots _ _ _ _ _ _ HX.out B B.size)
  replace HY := Lib.hid (keeps_spots _ _ _ _ _ _ HY.out B B.size)
  refine (lPart_any _ x L I W0 HX.out hk (by omega)).mono ?_
  rintro e W1 ⟨vp, rfl, hvp, hb⟩
  have HVP := Lib.hid hvp
  replace HX := Lib.hid (keeps_spots _ _ _ _ _ _ HX.out hb hb.size)
  replace HY := Lib.hid (keeps_spots _ _ _ _ _ _ HY.out hb hb.size)
  replace b4 := b4.next hb
  replace B := B.trans (hb.mono B.size)
  clear hb hvp
  rcases at_part x L I with ⟨ha, hp⟩ | ⟨o, t, ha, hp, hle, hpt, hen⟩
  · have HE := Lib.hid (congrArg spo (putO_no x L I y ha))
    rw [hp] at HVP
    obtain ⟨Ap, cp, rfl, -, -⟩ := spots_len HVP.out 0 rfl
    clear ha hp HVP
    go_wp2_with fail
    refine (cloneS_any _ (spo x) W1 HX.out (by omega)).mono ?_
    rintro e W2 ⟨v', rfl, hv', hb⟩
    have HV := Lib.hid hv'
    replace B := B.trans (hb.mono B.size)
    clear hv' hb
    go_wp2
    go_ret
    rw [HE.out]
    exact ⟨_, rfl, HV.out, B⟩
  · have HE := Lib.hid (putO_at x L I y o t ha hp)
    rw [hp] at HVP
    have hpos := flat_pos t
    obtain ⟨m, hm⟩ : ∃ m, (flat t).length = m := ⟨_, rfl⟩
    obtain ⟨Ap, cp, rfl, -, -⟩ := spots_len HVP.out m hm
    rw [hm] at hle HE hpos
    obtain ⟨z, hz⟩ : ∃ z, o + m = z := ⟨_, rfl⟩
    rw [hz] at hle HE
    have hm0 : ((m : Int) == 0) = false := beq_eq_false_iff_ne.2 (by omega)
    have HA := Lib.hid (fun (w : World) hs => lAt_any (.slice A (spo x).length cap) x L I w hs hk (by omega))
    rw [ha] at HA
    have hml : m ≤ 127 := by omega
    have hzx : z ≤ (spo x).length := hle
    have hox : o ≤ (spo x).length := by omega
    have q0 := b4.c 0 _ rfl
    have q1 := b4.c 1 _ rfl
    have hJL := joinS_len (flat t) (spo y)
    rw [hm] at hJL
    have HM := Lib.hid hm
    clear ha hp hpt hen hpos hm
    go_wp2_with fail
    refine (HA.out W1 HX.out).mono ?_
    rintro e W2 ⟨rfl, hb⟩
    replace HX := Lib.hid (keeps_spots _ _ _ _ _ _ HX.out hb hb.size)
    replace HY := Lib.hid (keeps_spots _ _ _ _ _ _ HY.out hb hb.size)
    replace HVP := Lib.hid (keeps_spots _ _ _ _ _ _ HVP.out hb hb.size)
    replace B := B.trans (hb.mono B.size)
    clear hb q0 q1 b4 HA
    obtain ⟨A1, hr1, hS1⟩ := cut_to HX.out rfl hlc o hox
    obtain ⟨A3, hr3, hS3⟩ := cut_from HX.out z hle
    have HS1 := Lib.hid hS1
    have HS3 := Lib.hid hS3
    have hwz : IntKind.i64.wrap ((o : Int) + (m : Int)) = (z : Int) := by rw [IntKind.wrap_i64]; omega
    have hoz : (o : Int) + (m : Int) = (z : Int) := by omega
    have HZ := Lib.hid hz
    have K1 := fun (W : World) (hW : Below W2.heap.size W2 W) => joinT_any (.slice Ap m cp) u (flat t) (spo y) W (keeps_spots _ _ _ _ _ _ HVP.out hW hW.size) (keeps_spots _ _ _ _ _ _ HY.out hW hW.size) (by rw [HM.out]; omega)
    have hTT : tot [(spo x).take o, joinS (flat t) (spo y), (spo x).drop z] ≤ 1000000 := by
      simp only [tot, List.map_cons, List.map_nil, List.sum_cons, List.sum_nil, List.length_take, List.length_drop]
      omega
    obtain ⟨N, hN⟩ : ∃ N, (spo x).length = N := ⟨_, rfl⟩
    rw [hN] at hr1 hr3 HS3
    rw [hN]
    clear hS1 hS3 hz hoz
    go_wp2_with fail
    refine wp_region_any_order (fun r i => ([.slice A N cap, .int .i64 (o : Int), .slice A1 o cap, .slice Ap m cp, u, r 0, .slice A N cap, .int .i64 (o : Int), .slice Ap m cp, .int .i64 (m : Int), .int .i64 (z : Int), .slice A3 (N - z) (cap - z), r 1, r 2, r 2] : List Value).getD i undef) [5, 12, 13] [[], [], [], [], [], [], [], [], [], [], [], [], [0], [1], [2]] (fun r D w' => Below W2.heap.size W2 w' ∧ (D 0 = true → Spots w'.heap.size w' (joinS (flat t) (spo y)) [r 0]) ∧ (D 1 = true → Lists w'.heap.size w' [(spo x).take o, joinS (flat t) (spo y), (spo x).drop z] [r 1]) ∧ (D 2 = true → Spots w'.heap.size w' (spo (putO x L I y)) [r 2])) (by kernel_rfl) (by kernel_rfl) (fun r => ⟨⟨rfl, rfl, rfl, Nat.le_refl _, fun _ _ => rfl⟩, (fun h => by cases h), (fun h => by cases h), (fun h => by cases h)⟩) ?_ ?_
    · refine ObsS_of_ends (by kernel_rfl) ?_
      intro r Fr hEA
      refine ⟨?_, ?_, ?_, ?_, ?_, ?_, ?_, ?_, ?_, ?_, ?_, ?_, ?_, ?_, ?_, trivial⟩
      · exact obS_move _ rfl (want_none rfl) (by kernel_rfl) (eval_out hEA (d := 0) (by kernel_rfl))
      · exact obS_move _ rfl (want_none rfl) (by kernel_rfl) (eval_out hEA (d := 8) (by kernel_rfl))
      · refine obS_val (want_none rfl) (by kernel_rfl) (fun D w' hlo hw => ?_)
        have e20 : Fr.tmps[20]? = some (.slice A N cap) := hEA.dst 0 _ 20 rfl rfl; have e21 : Fr.tmps[21]? = some (.int .i64 (o : Int)) := hEA.dst 1 _ 21 rfl rfl; simp [execOp, e20, e21, hr1, go_sem]
      · exact obS_move _ rfl (want_none rfl) (by kernel_rfl) (eval_out hEA (d := 7) (by kernel_rfl))
      · exact obS_move _ rfl (want_none rfl) (by kernel_rfl) (eval_out hEA (d := 2) (by kernel_rfl))
      · refine obS_call (q := 0) (f := 67) (args := #[.slice Ap m cp, u]) (want_none rfl) (by kernel_rfl) (fun w' => by have e23 : Fr.tmps[23]? = some (.slice Ap m cp) := hEA.dst 3 _ 23 rfl rfl; have e24 : Fr.tmps[24]? = some (u) := hEA.dst 4 _ 24 rfl rfl; simp [e23, e24, go_sem]) ?_
        intro D w' hlo hD hw
        refine (K1 w' hw.1).mono ?_
        rintro e w2 ⟨v1, rfl, hv1, hb⟩
        exact ⟨_, rfl, fun r' hr hv => ⟨hv, hw.1.trans (hb.mono hw.1.size), fun _ => by rw [hv]; exact hv1, fun h => by
          have h : D 1 = true := by simpa using h
          rw [hr 1 h]
          exact keeps_lists _ _ _ _ _ _ (hw.2.2.1 h) hb hb.size, fun h => by
          have h : D 2 = true := by simpa using h
          rw [hr 2 h]
          exact keeps_spots _ _ _ _ _ _ (hw.2.2.2 h) hb hb.size⟩⟩
      · exact obS_move _ rfl (want_none rfl) (by kernel_rfl) (eval_out hEA (d := 0) (by kernel_rfl))
      · exact obS_move _ rfl (want_none rfl) (by kernel_rfl) (eval_out hEA (d := 8) (by kernel_rfl))
      · exact obS_move _ rfl (want_none rfl) (by kernel_rfl) (eval_out hEA (d := 7) (by kernel_rfl))
      · refine obS_val (want_none rfl) (by kernel_rfl) (fun D w' hlo hw => ?_)
        have e28 : Fr.tmps[28]? = some (.slice Ap m cp) := hEA.dst 8 _ 28 rfl rfl; simp [e28, go_sem]
      · refine obS_val (want_none rfl) (by kernel_rfl) (fun D w' hlo hw => ?_)
        have e27 : Fr.tmps[27]? = some (.int .i64 (o : Int)) := hEA.dst 7 _ 27 rfl rfl; have e29 : Fr.tmps[29]? = some (.int .i64 (m : Int)) := hEA.dst 9 _ 29 rfl rfl; simp [execOp, e27, e29, hwz, go_sem]
      · refine obS_val (want_none rfl) (by kernel_rfl) (fun D w' hlo hw => ?_)
        have e26 : Fr.tmps[26]? = some (.slice A N cap) := hEA.dst 6 _ 26 rfl rfl; have e30 : Fr.tmps[30]? = some (.int .i64 (z : Int)) := hEA.dst 10 _ 30 rfl rfl; simp [execOp, e26, e30, hr3, go_sem]
      · refine obS_make (q := 1) (want_none rfl) (by kernel_rfl) (fun D w' hlo hD hw => ?_)
        have e22 : Fr.tmps[22]? = some (.slice A1 o cap) := hEA.dst 2 _ 22 rfl rfl; have e25 : Fr.tmps[25]? = some (r 0) := hEA.dst 5 _ 25 rfl rfl; have e31 : Fr.tmps[31]? = some (.slice A3 (N - z) (cap - z)) := hEA.dst 11 _ 31 rfl rfl
        have h0 := hlo 0 (by decide)
        have hs0 := hw.2.1 h0
        obtain ⟨j0, j1, hj, -, -⟩ := spots_len hs0 (joinS (flat t) (spo y)).length rfl
        rw [hj] at e25
        have hb := below_new w' (.cells #[.slice A1 o cap, .slice j0 (joinS (flat t) (spo y)).length j1, .slice A3 (N - z) (cap - z)] 32)
        refine ⟨.slice (some ⟨w'.heap.size, 0, none⟩) 3 3, w'.alloc (.cells #[.slice A1 o cap, .slice j0 (joinS (flat t) (spo y)).length j1, .slice A3 (N - z) (cap - z)] 32), by simp [execOp, e22, e25, e31, go_sem], fun r' hr hv => ⟨hv, hw.1.trans (hb.mono hw.1.size), fun _ => ?_, fun _ => ?_, fun h => ?_⟩⟩
        · rw [hr 0 h0]
          exact keeps_spots _ _ _ _ _ _ hs0 hb hb.size
        · rw [hv]
          rw [hj] at hs0
          exact grow_lists (lists_three 32 (keeps_spots _ _ _ _ _ _ HS1.out hw.1 hw.1.size) hs0 (keeps_spots _ _ _ _ _ _ HS3.out hw.1 hw.1.size) (Nat.le_refl _)) (by simp)
        · have h : D 2 = true := by simpa using h
          rw [hr 2 h]
          exact keeps_spots _ _ _ _ _ _ (hw.2.2.2 h) hb hb.size
      · refine obS_call (q := 2) (f := 66) (args := #[r 1]) (want_none rfl) (by kernel_rfl) (fun w' => by have e32 : Fr.tmps[32]? = some (r 1) := hEA.dst 12 _ 32 rfl rfl; simp [e32, go_sem]) ?_
        intro D w' hlo hD hw
        have h1 := hlo 1 (by decide)
        refine (concatS_any (r 1) [(spo x).take o, joinS (flat t) (spo y), (spo x).drop z] w' (hw.2.2.1 h1) (by simp) hTT).mono ?_
        rintro e w2 ⟨v1, rfl, hv1, hb⟩
        exact ⟨_, rfl, fun r' hr hv => ⟨hv, hw.1.trans (hb.mono hw.1.size), fun h => by
          have h : D 0 = true := by simpa using h
          rw [hr 0 h]
          exact keeps_spots _ _ _ _ _ _ (hw.2.1 h) hb hb.size, fun h => by
          have h : D 1 = true := by simpa using h
          rw [hr 1 h]
          exact keeps_lists _ _ _ _ _ _ (hw.2.2.1 h) hb hb.size, fun _ => by
          rw [hv, HE.out]
          simpa [List.append_assoc] using hv1⟩⟩
      · refine obS_val (want_none rfl) (by kernel_rfl) (fun D w' hlo hw => ?_)
        have e33 : Fr.tmps[33]? = some (r 2) := hEA.dst 13 _ 33 rfl rfl; simp [execOp, e33, go_sem]
    · intro r w' hw
      simp only [laid, Act.put, List.setIfInBounds_toArray, List.set_cons_succ, List.set_cons_zero, List.getD_cons_succ, List.getD_cons_zero, Nat.zero_add, Nat.reduceAdd]
      obtain ⟨wz, hwz⟩ : ∃ wz, w' = wz := ⟨_, rfl⟩
      rw [hwz] at hw
      rw [hwz]
      have HV := Lib.hid (hw.2.2.2 (by decide))
      have B5 := B.trans (hw.1.mono B.size)
      obtain ⟨v2, hv2⟩ : ∃ v2, r 2 = v2 := ⟨_, rfl⟩
      rw [hv2] at HV
      try rw [hv2]
      clear hw hwz hv2
      go_wp2
      go_ret
      exact ⟨_, rfl, HV.out, B5⟩
set_option maxRecDepth 100000 in
set_option maxHeartbeats 8000000 in
theorem gGraft_any (v u : Value) (x y : Option Tr) (w : World) (hx : Spots w.heap.size w (spo x) [v]) (hy : Spots w.heap.size w (spo y) [u]) (hk : okT (spo x) = true) (hk' : okT (spo y) = true) (hh : htO x ≤ 20) (hh' : htO y ≤ 60) (ho : okT (spo (graftO x y)) = true) :
    Calls Try.prog 37 #[v, u] w fun e W' => ∃ v', e = .returned v' ∧ Spots W'.heap.size W' (spo (graftO x y)) [v'] ∧ Below w.heap.size w W' := by
  have HX := Lib.hid hx
  have HY := Lib.hid hy
  have hxl := spo_short hk
  have hyl := spo_short hk'
  have hlow := htO_low y
  clear hx hy ho
  go_enter Try.func37, Try.ntmps37
  cases x with
  | none =>
    obtain ⟨A, cap, rfl, -, -⟩ := spots_len HX.out 0 rfl
    have HC := Lib.hid (cloneS_any u (spo y) w HY.out (by omega))
    clear HX
    go_wp2_with fail
    refine HC.out.mono ?_
    rintro e W2 ⟨v', rfl, hv', hb⟩
    have HV : Hid (Spots W2.heap.size W2 (spo (graftO none y)) [v']) := Lib.hid hv'
    clear hv'
    go_wp2
    go_ret
    exact ⟨_, rfl, HV.out, hb⟩
  | some t =>
    have hpos := flat_pos t
    obtain ⟨N, hN⟩ : ∃ N, (spo (some t)).length = N := ⟨_, rfl⟩
    obtain ⟨A, cap, rfl, -, -⟩ := spots_len HX.out N hN
    have hN0 : 0 < N := by rw [← hN]; exact hpos
    have hz : ((N : Int) == 0) = false := beq_eq_false_iff_ne.2 (by omega)
    have HH := Lib.hid (heightO_any y u w HY.out (by omega))
    have hhy : htO y ≤ 60 := hh'
    obtain ⟨H, hH⟩ : ∃ H, htO y = H := ⟨_, rfl⟩
    rw [hH] at HH hh' hlow
    have HE : Hid (graftO (some t) y = putO (some t) (placeO (some t) H).1 (placeO (some t) H).2 y) := Lib.hid (by rw [← hH]; rfl)
    clear hpos hN hH
    go_wp2_with fail
    refine HH.out.mono ?_
    rintro e W1 ⟨rfl, B⟩
    replace HX := Lib.hid (keeps_spots _ _ _ _ _ _ HX.out B B.size)
    replace HY := Lib.hid (keeps_spots _ _ _ _ _ _ HY.out B B.size)
    go_wp2_with fail
    refine (gPlace_low _ (some t) H W1 HX.out hk hh (by omega) (by omega)).mono ?_
    rintro e W2 ⟨rfl, hb⟩
    replace HX := Lib.hid (keeps_spots _ _ _ _ _ _ HX.out hb hb.size)
    replace HY := Lib.hid (keeps_spots _ _ _ _ _ _ HY.out hb hb.size)
    replace B := B.trans (hb.mono B.size)
    clear hb HH
    obtain ⟨⟨L, I⟩, hLI⟩ : ∃ q, placeO (some t) H = q := ⟨_, rfl⟩
    rw [hLI] at HE
    rw [hLI]
    clear hLI
    go_wp2_with fail
    refine (gPut_any _ u (some t) y L I W2 HX.out HY.out hk hk' hh ?_).mono ?_
    · exact hhy
    rintro e W3 ⟨v', rfl, hv', hb⟩
    have HV : Hid (Spots W3.heap.size W3 (spo (graftO (some t) y)) [v']) := Lib.hid (by rw [HE.out]; exact hv')
    replace B := B.trans (hb.mono B.size)
    clear hv' hb
    go_wp2
    go_ret
    exact ⟨_, rfl, HV.out, B⟩
set_option maxRecDepth 100000 in
set_option maxHeartbeats 8000000 in
theorem gMerge_wide (v : Value) (hs : List Hd) (xs : List (Option Tr)) (w : World) (hH : Heads w.heap.size w hs [v]) (hE : Each w.heap.size w hs xs) (hn : xs.length ≤ 12) (hx : ∀ x ∈ xs, okT (spo x) = true ∧ htO x ≤ 8) (hd : (allO xs).Nodup) (hl : (allO xs).length ≤ 60) :
    Calls Try.prog 23 #[v] w fun e W' => ∃ v', e = .returned v' ∧ Spots W'.heap.size W' (spo (mergeO xs)) [v'] ∧ Below w.heap.size w W' := by
  obtain ⟨A, cap, rfl, -, hcm, -⟩ := heads_at hH
  have HW := Lib.hid (sortA_way hn hx hd hl)
  have HM := Lib.hid (merge_sortA xs)
  obtain ⟨-, hsl, -, hsm⟩ := sortA_facts xs xs.length (Nat.le_refl _)
  rw [List.take_of_length_le (Nat.le_refl _)] at hsl hsm
  have HXX : Hid (∀ y ∈ sortA xs, okT (spo y) = true ∧ htO y ≤ 8) := Lib.hid fun y hy => hx y (hsm y hy)
  have HXL : Hid (∀ y ∈ xs, (spo y).length ≤ 100000) := Lib.hid fun y hy => by have := spo_short (hx y hy).1; omega
  obtain ⟨so, hso⟩ : ∃ so, sortA xs = so := ⟨_, rfl⟩
  rw [hso] at HW HM hsl HXX
  have HSO := Lib.hid hso
  have HHH := Lib.hid hH
  have HEE := Lib.hid hE
  clear hx hd hl hsm hso hH hE
  go_enter Try.func23, Try.ntmps23
  go_wp2_with fail
  refine (valuesH_any A hs.length cap w).mono ?_
  rintro e w' ⟨rfl, rfl⟩
  obtain ⟨W0, hW0, b1, B⟩ : ∃ W0, w.alloc (.cells #[.slice A hs.length cap] 49) = W0 ∧ Box W0 w.heap.size [.slice A hs.length cap] ∧ Below w.heap.size w W0 := ⟨_, rfl, Box.new w _ _, below_new _ _⟩
  rw [hW0]
  clear hW0
  have HS := Lib.hid (sortedH_any w.heap.size hs xs (.slice A hs.length cap) W0 b1.lt (keeps_heads _ _ _ _ _ _ HHH.out B B.size) (b1.c 0 _ rfl) hn (HEE.out.keep B B.size) HXL.out)
  rw [HSO.out] at HS
  go_wp2_with fail
  refine HS.out.mono ?_
  rintro e W1 ⟨v1, hs1, rfl, hH1, hE1, hb⟩
  have hl1 : hs1.length = so.length := hE1.1
  obtain ⟨A1, c1, rfl, hlc1, -, hp1⟩ := heads_at hH1
  have HP := Lib.hid hp1
  have HE := Lib.hid hE1
  replace B := B.trans (hb.mono B.size)
  have HL1 := Lib.hid hl1
  have hn1 : hs1.length ≤ 12 := by omega
  clear hH1 hp1 hE1 hb HS HHH HEE HXL hl1 b1 hsl
  go_wp2_with fail
  go_loopw [3, 5, 10] (fun ov _ jv wz => ∃ (j : Nat) (wq : World) (vq : Value), wq = wz ∧ vq = ov ∧ j ≤ hs1.length ∧ jv = .int .i64 (j : Int) ∧ Spots wz.heap.size wz (spo ((so.take j).foldl graftO none)) [ov] ∧ Below W1.heap.size W1 wz) (fun _ _ jv _ => hs1.length - (intOf jv).toNat)
  case atStart => exact ⟨0, _, _, rfl, rfl, Nat.zero_le _, rfl, own_spots (World.ownsRow_nil _ W1.heap.size _ _), Below.refl _ _⟩
  case round =>
    obtain ⟨j, wz, ov, rfl, rfl, hj, rfl, ho, Bz⟩ := hrel
    obtain ⟨oA, oK, rfl, -, -, -⟩ := spots_at ho
    by_cases hjr : j < hs1.length
    · have hd : decide (j < hs1.length) = true := decide_eq_true hjr
      have hjl : (j : Int) < (hs1.length : Int) := by omega
      have hgj : (0 : Int) ≤ (j : Int) := by omega
      obtain ⟨g2, off2, rfl, hg2n, hy0⟩ := HP.out j hjr
      have y0 := (Bz.cell (p := ⟨g2, off2 + j, none⟩) hg2n).trans hy0
      have hjs : j < so.length := by have := HL1.out; omega
      have hY := keeps_spots _ _ _ _ _ _ (each_at HE.out j hjr hjs) Bz Bz.size
      have HYL := Lib.hid (HXX.out _ (List.getElem_mem hjs))
      have HOL := Lib.hid (HW.out j (by omega))
      have HON := Lib.hid (HW.out (j + 1) (by omega))
      have HF : Hid ((so.take (j + 1)).foldl graftO none = graftO ((so.take j).foldl graftO none) so[j]) := Lib.hid (by rw [List.take_succ_eq_append_getElem hjs, List.foldl_append]; rfl)
      rw [HF.out] at HON
      obtain ⟨⟨yA, yN, yK⟩, hq⟩ : ∃ q, hs1[j] = q := ⟨_, rfl⟩
      rw [hq] at y0 hY
      obtain ⟨y, hye⟩ : ∃ y, so[j] = y := ⟨_, rfl⟩
      rw [hye] at hY HYL HF HON
      simp only at y0 hY
      have HY := Lib.hid hY
      have HOV := Lib.hid ho
      clear hq hye hy0 hg2n hY ho
      go_wp2_with fail
      refine (gGraft_any _ _ _ y wz HOV.out HY.out HOL.out.1 HYL.out.1 HOL.out.2 (by have := HYL.out.2; omega) HON.out.1).mono ?_
      rintro e w2 ⟨v2, rfl, hv2, hb⟩
      obtain ⟨nA, nK, rfl, -, -, -⟩ := spots_at hv2
      have HV2 : Hid (Spots w2.heap.size w2 (spo ((so.take (j + 1)).foldl graftO none)) [.slice nA (spo (graftO ((so.take j).foldl graftO none) y)).length nK]) := Lib.hid (by rw [HF.out]; exact hv2)
      have BN := Bz.trans (hb.mono Bz.size)
      clear hv2 hb
      go_wp2
      go_roundw
      case rel => exact ⟨j + 1, _, _, rfl, rfl, by omega, by go_num, HV2.out, BN⟩
      case measure => simp [intOf]; omega
    · have hd : decide (j < hs1.length) = false := decide_eq_false hjr
      have hje : so.take j = so := List.take_of_length_le (by have := HL1.out; omega)
      have e2 : spo (mergeO xs) = spo ((so.take j).foldl graftO none) := by rw [hje, HM.out]
      have HOV : Hid (Spots wz.heap.size wz (spo (mergeO xs)) [.slice oA (spo ((so.take j).foldl graftO none)).length oK]) := Lib.hid (by rw [e2]; exact ho)
      clear e2
      have BB := B.trans (Bz.mono B.size)
      clear ho hje hjr
      go_wp2
      go_ret
      exact ⟨_, rfl, HOV.out, BB⟩
theorem gMerge_any (v : Value) (hs : List Hd) (xs : List (Option Tr)) (w : World) (hH : Heads w.heap.size w hs [v]) (hE : Each w.heap.size w hs xs) (hn : xs.length ≤ 8) (hx : ∀ x ∈ xs, okT (spo x) = true ∧ htO x ≤ 5) (hd : (allO xs).Nodup) (hl : (allO xs).length ≤ 60) :
    Calls Try.prog 23 #[v] w fun e W' => ∃ v', e = .returned v' ∧ Spots W'.heap.size W' (spo (mergeO xs)) [v'] ∧ Below w.heap.size w W' :=
  gMerge_wide v hs xs w hH hE (by omega) (fun x h => ⟨(hx x h).1, by have := (hx x h).2; omega⟩) hd hl

end Go.Proofs.Ytkmlnglmecjmeaa
