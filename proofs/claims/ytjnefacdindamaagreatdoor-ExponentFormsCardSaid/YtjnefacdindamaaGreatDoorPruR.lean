import Derived.Test.YtjnefacdindamaaGreatDoorJoinS
/- The document's Only and Without of layer 11. Condition: the slices read as a tree's spots, or nothing's, of at most 400,000; as members, of at most a million. -/
namespace Go.Proofs.YtjnefacdindamaaGreatDoor
open Go Go.RowKit
set_option linter.unusedVariables false
set_option maxRecDepth 100000

set_option maxRecDepth 100000 in
set_option maxHeartbeats 4000000 in
theorem refOnly_nil (v u : Value) (K : List (Int × Int)) (w : World) (h : Spots w.heap.size w [] [v]) :
    Calls Tryz.prog 49 #[v, u] w fun e W' => ∃ v', e = .returned v' ∧ Spots W'.heap.size W' [] [v'] ∧ Below w.heap.size w W' := by
  have HX := Lib.hid h
  obtain ⟨A, cap, rfl, hlc, hcm, _⟩ := spots_at h
  clear h
  go_enter Tryz.func49, Tryz.ntmps49
  go_wp2_with fail
  refine (refHalves_few [] _ w HX.out (by decide)).mono ?_
  rintro e W1 ⟨rfl, rfl⟩
  go_wp2
  go_ret
  exact ⟨_, rfl, own_spots (World.ownsRow_nil _ w.heap.size _ _), Below.refl _ _⟩
set_option maxRecDepth 100000 in
set_option maxHeartbeats 4000000 in
theorem refOnly_leaf (a b : Int) (v u : Value) (K : List (Int × Int)) (w : World) (h : Spots w.heap.size w (flat (.leaf a b)) [v]) (hK : Mems w.heap.size w K [u]) :
    Calls Tryz.prog 49 #[v, u] w fun e W' => ∃ v', e = .returned v' ∧ Spots W'.heap.size W' (spo (keepT K (.leaf a b))) [v'] ∧ Below w.heap.size w W' := by
  have HX := Lib.hid h
  have HK := Lib.hid hK
  obtain ⟨A, cap, rfl, hlc, hcm, hp⟩ := spots_at h
  obtain ⟨g, off, rfl, hg, k0, k1, k2⟩ := hp 0 (by simp [flat])
  replace k1 : w.cell? ⟨g, off + 0 * 3 + 1, none⟩ = some (.int .i64 a) := k1
  replace k2 : w.cell? ⟨g, off + 0 * 3 + 2, none⟩ = some (.int .i64 b) := k2
  simp only [Nat.zero_mul, Nat.add_zero] at k1 k2
  clear h hp k0 hcm
  have hN1 : (((flat (.leaf a b)).length : Int) == 1) = true := rfl
  have hNp : 0 < (flat (.leaf a b)).length := by simp [flat]
  have hNq : (0 : Int) < ((flat (.leaf a b)).length : Int) := by omega
  have hNl : (flat (.leaf a b)).length ≤ 1 := by simp [flat]
  obtain ⟨xs, hxs⟩ : ∃ xs, flat (.leaf a b) = xs := ⟨_, rfl⟩
  rw [hxs] at HX hN1 hNp hNq hlc hNl
  rw [hxs]
  by_cases hm : (a, b) ∈ K
  · have HE : Hid (spo (keepT K (.leaf a b)) = xs) := Lib.hid (by rw [← hxs]; show spo (if (a, b) ∈ K then some (Tr.leaf a b) else none) = _; rw [if_pos hm]; rfl)
    have HH : Hid (∀ w, Mems w.heap.size w K [u] → Calls Tryz.prog 25 #[u, vM a b] w fun e W' => e = .returned (.bool true) ∧ Below w.heap.size w W') := Lib.hid fun w h => by
      have := refHas_any u K a b w h
      rwa [decide_eq_true hm] at this
    clear hm hxs
    go_enter Tryz.func49, Tryz.ntmps49
    go_wp2_with fail
    refine (refHalves_few xs _ w HX.out (by omega)).mono ?_
    rintro e W1 ⟨rfl, rfl⟩
    go_wp2_with fail
    refine (HH.out w HK.out).mono ?_
    rintro e W1 ⟨rfl, B⟩
    have HX1 := Lib.hid (keeps_spots _ _ _ _ _ _ HX.out B B.size)
    have B0 := below_new W1 (.cells #[] 60)
    have HX2 := Lib.hid (keeps_spots _ _ _ _ _ _ HX1.out B0 (Nat.le_refl _))
    go_wp2_with (at_builtin; refine append_spots _ rfl _ _ rfl W1.heap.size _ _ _ rfl (owns_empty W1 60 3 (Nat.le_refl _)) W1.heap.size _ xs rfl HX2.out ?c1 ?c2 ?_)
    case c1 => omega
    case c2 => simp
    intro v' w' hown' hgr
    have B2 := ((Below.refl W1.heap.size W1).alloc (Nat.le_refl _) (.cells #[] 60)).grown hgr (by simp) (by intro k hk; simp [Value.ownBlock] at hk; omega)
    go_wp2
    go_ret
    rw [HE.out]
    exact ⟨_, rfl, own_spots (by simpa using hown'), B.trans (B2.mono B.size)⟩
  · have HE : Hid (spo (keepT K (.leaf a b)) = []) := Lib.hid (by show spo (if (a, b) ∈ K then some (Tr.leaf a b) else none) = _; rw [if_neg hm]; rfl)
    have HH : Hid (∀ w, Mems w.heap.size w K [u] → Calls Tryz.prog 25 #[u, vM a b] w fun e W' => e = .returned (.bool false) ∧ Below w.heap.size w W') := Lib.hid fun w h => by
      have := refHas_any u K a b w h
      rwa [decide_eq_false hm] at this
    clear hm hxs
    go_enter Tryz.func49, Tryz.ntmps49
    go_wp2_with fail
    refine (refHalves_few xs _ w HX.out (by omega)).mono ?_
    rintro e W1 ⟨rfl, rfl⟩
    go_wp2_with fail
    refine (HH.out w HK.out).mono ?_
    rintro e W1 ⟨rfl, B⟩
    go_wp2
    go_ret
    rw [HE.out]
    exact ⟨_, rfl, own_spots (World.ownsRow_nil _ w.heap.size _ _), B⟩
set_option maxRecDepth 100000 in
set_option maxHeartbeats 4000000 in
theorem refOnly_flat (K : List (Int × Int)) : ∀ (t : Tr) (v u : Value) (w : World), Spots w.heap.size w (flat t) [v] → Mems w.heap.size w K [u] → (flat t).length ≤ 400000 →
    Calls Tryz.prog 49 #[v, u] w fun e W' => ∃ v', e = .returned v' ∧ Spots W'.heap.size W' (spo (keepT K t)) [v'] ∧ Below w.heap.size w W'
  | .leaf a b, v, u, w, h, hK, _ => refOnly_leaf a b v u K w h hK
  | .inner a b l r, v, u, w, h, hK, hn => by
    have HX := Lib.hid h
    have HK := Lib.hid hK
    obtain ⟨A, cap, rfl, hlc, hcm, -⟩ := spots_at h
    have hl := flat_inner_len a b l r
    have hfl : (flat l).length ≤ 400000 := by omega
    have hfr : (flat r).length ≤ 400000 := by omega
    have ihl := Lib.hid (fun v u w h hK => refOnly_flat K l v u w h hK hfl)
    have ihr := Lib.hid (fun v u w h hK => refOnly_flat K r v u w h hK hfr)
    have hll : (spo (keepT K l)).length ≤ 400000 := Nat.le_trans (len_keep K (some l)) hfl
    have hlr : (spo (keepT K r)).length ≤ 400000 := Nat.le_trans (len_keep K (some r)) hfr
    have HJ := Lib.hid (fun u v w h h' => refJoinO_any u v (keepT K l) (keepT K r) w h h' (by omega))
    have HH := Lib.hid (fun v w h => refHalves_inner a b l r v w h (by omega))
    have HE : Hid (spo (keepT K (.inner a b l r)) = spo (joinO (keepT K l) (keepT K r))) := Lib.hid rfl
    clear h hK hl hlc hcm hfl hfr hll hlr
    generalize (flat (.inner a b l r)).length = N at *
    clear hn
    go_enter Tryz.func49, Tryz.ntmps49
    go_wp2_with fail
    refine (HH.out _ w HX.out).mono ?_
    rintro e W1 ⟨v1, v2, rfl, h1, h2, B⟩
    have H1 := Lib.hid h1
    have H2 := Lib.hid h2
    replace HK := Lib.hid (keeps_mems _ _ _ _ _ _ HK.out B B.size)
    clear h1 h2
    go_wp2_with fail
    refine (ihl.out v1 u W1 H1.out HK.out).mono ?_
    rintro e W2 ⟨v3, rfl, h3, hb⟩
    have H3 := Lib.hid h3
    replace H2 := Lib.hid (keeps_spots _ _ _ _ _ _ H2.out hb hb.size)
    replace HK := Lib.hid (keeps_mems _ _ _ _ _ _ HK.out hb hb.size)
    replace B := B.trans (hb.mono B.size)
    clear h3 hb
    go_wp2_with fail
    refine (ihr.out v2 u W2 H2.out HK.out).mono ?_
    rintro e W3 ⟨v4, rfl, h4, hb⟩
    have H4 := Lib.hid h4
    replace H3 := Lib.hid (keeps_spots _ _ _ _ _ _ H3.out hb hb.size)
    replace B := B.trans (hb.mono B.size)
    clear h4 hb
    go_wp2_with fail
    refine (HJ.out v3 v4 W3 H3.out H4.out).mono ?_
    rintro e W4 ⟨v5, rfl, h5, hb⟩
    have H5 := Lib.hid h5
    replace B := B.trans (hb.mono B.size)
    clear h5 hb
    go_wp2
    go_ret
    rw [HE.out]
    exact ⟨_, rfl, H5.out, B⟩
theorem refOnly_any (v u : Value) (ot : Option Tr) (K : List (Int × Int)) (w : World) (h : Spots w.heap.size w (spo ot) [v]) (hK : Mems w.heap.size w K [u]) (hn : (spo ot).length ≤ 400000) :
    Calls Tryz.prog 49 #[v, u] w fun e W' => ∃ v', e = .returned v' ∧ Spots W'.heap.size W' (spo (keepO K ot)) [v'] ∧ Below w.heap.size w W' := by
  cases ot with
  | none => exact refOnly_nil v u K w h
  | some t => exact refOnly_flat K t v u w h hK hn

theorem filter_take (p : Int × Int → Bool) (xs : List (Int × Int)) (k : Nat) (h : k < xs.length) : (xs.take (k + 1)).filter p = (xs.take k).filter p ++ (if p xs[k] then [xs[k]] else []) := by
  rw [List.take_succ_eq_append_getElem h, List.filter_append]
  congr 1
  by_cases hp : p xs[k] = true
  · rw [if_pos hp]; simp [hp]
  · rw [if_neg hp]; simp [hp]
theorem filter_len (p : Int × Int → Bool) (xs : List (Int × Int)) (k : Nat) : ((xs.take k).filter p).length ≤ k := by
  have h1 := List.length_filter_le p (xs.take k)
  have h2 : (xs.take k).length ≤ k := by rw [List.length_take]; omega
  omega
set_option maxRecDepth 100000 in
set_option maxHeartbeats 8000000 in
theorem refWithout_any (v : Value) (ot : Option Tr) (m1 m2 : Int) (w : World) (h : Spots w.heap.size w (spo ot) [v]) (hn : (spo ot).length ≤ 400000) :
    Calls Tryz.prog 26 #[v, vM m1 m2] w fun e W' => ∃ v', e = .returned v' ∧ Spots W'.heap.size W' (spo (withoutO (m1, m2) ot)) [v'] ∧ Below w.heap.size w W' := by
  have HX := Lib.hid h
  have HON := Lib.hid (fun u w h hK => refOnly_any v u ot ((lvO ot).filter fun z => decide (z ≠ (m1, m2))) w h hK hn)
  clear h
  go_enter Tryz.func26, Tryz.ntmps26
  go_wp2_with fail
  obtain ⟨W0, hW0, b0, B⟩ : ∃ W0, w.alloc (.cells #[.int .i64 m1, .int .i64 m2] 29) = W0 ∧ Box W0 w.heap.size [.int .i64 m1, .int .i64 m2] ∧ Below w.heap.size w W0 := ⟨_, rfl, Box.new w _ _, below_new _ _⟩
  rw [hW0]
  clear hW0
  refine (refLeaves_any v (spo ot) W0 (keeps_spots _ _ _ _ _ _ HX.out B B.size) (by omega)).mono ?_
  rintro e W1 ⟨u, rfl, hu, hb⟩
  replace b0 := b0.next hb
  replace B := B.trans (hb.mono B.size)
  have hxl : (lv (spo ot)).length ≤ 400000 := Nat.le_trans (lv_length_le _) hn
  obtain ⟨A, cap, rfl, hlc, hcm, hp⟩ := mems_at hu
  have hcm2 : cap ≤ 9223372036854775807 := Nat.le_trans hcm (by decide)
  have HP := Lib.hid hp
  have HWO : Hid (spo (withoutO (m1, m2) ot) = spo (keepO ((lv (spo ot)).filter fun z => decide (z ≠ (m1, m2))) ot)) := Lib.hid rfl
  replace HON : Hid (∀ u w, Spots w.heap.size w (spo ot) [v] → Mems w.heap.size w ((lv (spo ot)).filter fun z => decide (z ≠ (m1, m2))) [u] → Calls Tryz.prog 49 #[v, u] w fun e W' => ∃ v', e = .returned v' ∧ Spots W'.heap.size W' (spo (keepO ((lv (spo ot)).filter fun z => decide (z ≠ (m1, m2))) ot)) [v'] ∧ Below w.heap.size w W') := HON
  clear hp hu hb hcm hn
  obtain ⟨xs, hxs⟩ : ∃ xs, lv (spo ot) = xs := ⟨_, rfl⟩
  rw [hxs] at HP HWO HON hxl hlc
  rw [hxs]
  clear hxs
  have hW1l : w.heap.size < W1.heap.size := b0.lt
  obtain ⟨N, hN⟩ : ∃ N, W1.heap.size = N := ⟨_, rfl⟩
  have HNN := Lib.hid hN
  clear hN
  go_wp2_with fail
  go_loopw [5, 7] (fun s i wr => ∃ (k : Nat) (wq : World) (uq : Value), wq = wr ∧ uq = s ∧ k ≤ xs.length ∧ i = .int .i64 k ∧ wr.ownsRow N 29 2 s ((xs.take k).filter fun z => decide (z ≠ (m1, m2))).length (((xs.take k).filter fun z => decide (z ≠ (m1, m2))).flatMap mC) ∧ Box wr w.heap.size [.int .i64 m1, .int .i64 m2] ∧ Below w.heap.size w wr ∧ Below N W1 wr) (fun _ i _ => xs.length - (intOf i).toNat)
  case atStart => exact ⟨0, _, _, rfl, rfl, Nat.zero_le _, rfl, World.ownsRow_nil _ _ _ _, b0, B, by rw [← HNN.out]; exact Below.refl _ _⟩
  case round =>
    clear b0 B
    obtain ⟨k, wr, s, rfl, rfl, hk, rfl, hown, bx, B, BN⟩ := hrel
    by_cases hlt : k < xs.length
    · have hd : decide (k < xs.length) = true := by simpa using hlt
      have hi : (k : Int) < (xs.length : Int) := by omega
      have hge : (0 : Int) ≤ (k : Int) := by omega
      obtain ⟨g, off, rfl, hbn, hc0, hc1⟩ := HP.out k hlt
      have hbN : g < N := by rw [← HNN.out]; exact hbn
      have k0 := (BN.cell (p := ⟨g, off + k * 2, none⟩) hbN).trans hc0
      have k1 := (BN.cell (p := ⟨g, off + k * 2 + 1, none⟩) hbN).trans hc1
      have q0 := bx.c 0 _ rfl
      have q1 := bx.c 1 _ rfl
      have HF := Lib.hid (filter_take (fun z => decide (z ≠ (m1, m2))) xs k hlt)
      have hfl := filter_len (fun z => decide (z ≠ (m1, m2))) xs k
      obtain ⟨⟨x, y⟩, hb⟩ : ∃ b, xs[k] = b := ⟨_, rfl⟩
      rw [hb] at k0 k1 HF
      clear hb hc0 hc1
      by_cases hne : (x, y) = (m1, m2)
      · have HF2 : Hid ((xs.take (k + 1)).filter (fun z => decide (z ≠ (m1, m2))) = (xs.take k).filter fun z => decide (z ≠ (m1, m2))) := Lib.hid (by rw [HF.out, if_neg (by simp [hne]), List.append_nil])
        obtain ⟨rfl, rfl⟩ : x = m1 ∧ y = m2 := by simpa using hne
        clear hne HF
        go_wp2_with fail
        go_quiet (fail)
        go_wp2
        go_roundw
        case rel => exact ⟨k + 1, _, _, rfl, rfl, by omega, by go_num, by rw [HF2.out]; exact hown, bx.keep rfl, B.trans ⟨rfl, rfl, rfl, Nat.le_refl _, fun _ _ => rfl⟩, BN.trans ⟨rfl, rfl, rfl, Nat.le_refl _, fun _ _ => rfl⟩⟩
        case measure => simp [intOf]; omega
      · have HF2 : Hid ((xs.take (k + 1)).filter (fun z => decide (z ≠ (m1, m2))) = ((xs.take k).filter fun z => decide (z ≠ (m1, m2))) ++ [(x, y)]) := Lib.hid (by rw [HF.out, if_pos (by rw [decide_eq_true_eq]; exact hne)])
        have hne' : x = m1 → y = m2 → False := fun e2 e3 => hne (by rw [e2, e3])
        clear hne HF
        have hwN : w.heap.size < N := by rw [← HNN.out]; exact hW1l
        by_cases e2 : x = m1
        · subst e2
          have e3 : ¬ y = m2 := fun e => hne' rfl e
          clear hne'
          go_wp2_with fail
          go_quiet (fail)
          have hown9 : (wr.drewN nq).ownsRow N 29 2 s ((xs.take k).filter fun z => decide (z ≠ (x, m2))).length (((xs.take k).filter fun z => decide (z ≠ (x, m2))).flatMap mC) := hown
          have bx9 : Box (wr.drewN nq) w.heap.size [.int .i64 x, .int .i64 m2] := bx.keep rfl
          have B9 : Below w.heap.size w (wr.drewN nq) := B.trans ⟨rfl, rfl, rfl, Nat.le_refl _, fun _ _ => rfl⟩
          have BN9 : Below N W1 (wr.drewN nq) := BN.trans ⟨rfl, rfl, rfl, Nat.le_refl _, fun _ _ => rfl⟩
          have c0 : (wr.drewN nq).cell? ⟨g, off + k * 2, none⟩ = _ := k0
          have c1 : (wr.drewN nq).cell? ⟨g, off + k * 2 + 1, none⟩ = _ := k1
          obtain ⟨W9, hW9⟩ : ∃ W9, wr.drewN nq = W9 := ⟨_, rfl⟩
          rw [hW9] at hown9 bx9 B9 BN9 c0 c1
          rw [hW9]
          clear hW9 hown bx B BN k0 k1 q0 q1
          go_wp2_with (at_builtin; refine append_mems _ rfl _ _ rfl N _ _ _ rfl (hown9.alloc _) _ _ _ rfl (one_mem _ _ _ _ _ (by simp)) ?c1 ?c2 ?_)
          case c1 => exact Nat.le_trans (Nat.add_le_add hfl (Nat.le_refl 1)) (by omega)
          case c2 => have := BN9.size; rw [HNN.out] at this; simp; omega
          intro v' w' hown' hgr
          have hNs : N ≤ W9.heap.size := by have := BN9.size; rw [HNN.out] at this; exact this
          have B2 := (B9.alloc B9.size (.cells #[.int .i64 x, .int .i64 y] 29)).grown hgr (by have := B9.size; simp; omega) (fun k hk => by have := (hown9.lt k hk).1; omega)
          have BN2 := (BN9.alloc hNs (.cells #[.int .i64 x, .int .i64 y] 29)).grown hgr (by simp; omega) (fun k hk => (hown9.lt k hk).1)
          have bx2 := (bx9.next (below_new W9 (.cells #[.int .i64 x, .int .i64 y] 29))).keep (hgr.block w.heap.size (by have := bx9.lt; simp; omega) (fun e => by have := (hown9.lt _ e.symm).1; omega))
          have HO2 : Hid (w'.ownsRow N 29 2 v' ((xs.take (k + 1)).filter fun z => decide (z ≠ (x, m2))).length (((xs.take (k + 1)).filter fun z => decide (z ≠ (x, m2))).flatMap mC)) := Lib.hid (by rw [HF2.out]; simpa using hown')
          clear hown9 bx9 B9 BN9 c0 c1 hgr hown' HF2
          go_wp2
          go_roundw
          case rel => exact ⟨k + 1, _, _, rfl, rfl, by omega, by go_num, HO2.out, bx2, B2, BN2⟩
          case measure => simp [intOf]; omega
        · clear hne'
          go_wp2_with fail
          go_quiet (fail)
          have hown9 : (wr.drewN nq).ownsRow N 29 2 s ((xs.take k).filter fun z => decide (z ≠ (m1, m2))).length (((xs.take k).filter fun z => decide (z ≠ (m1, m2))).flatMap mC) := hown
          have bx9 : Box (wr.drewN nq) w.heap.size [.int .i64 m1, .int .i64 m2] := bx.keep rfl
          have B9 : Below w.heap.size w (wr.drewN nq) := B.trans ⟨rfl, rfl, rfl, Nat.le_refl _, fun _ _ => rfl⟩
          have BN9 : Below N W1 (wr.drewN nq) := BN.trans ⟨rfl, rfl, rfl, Nat.le_refl _, fun _ _ => rfl⟩
          have c0 : (wr.drewN nq).cell? ⟨g, off + k * 2, none⟩ = _ := k0
          have c1 : (wr.drewN nq).cell? ⟨g, off + k * 2 + 1, none⟩ = _ := k1
          obtain ⟨W9, hW9⟩ : ∃ W9, wr.drewN nq = W9 := ⟨_, rfl⟩
          rw [hW9] at hown9 bx9 B9 BN9 c0 c1
          rw [hW9]
          clear hW9 hown bx B BN k0 k1 q0 q1
          go_wp2_with (at_builtin; refine append_mems _ rfl _ _ rfl N _ _ _ rfl (hown9.alloc _) _ _ _ rfl (one_mem _ _ _ _ _ (by simp)) ?c1 ?c2 ?_)
          case c1 => exact Nat.le_trans (Nat.add_le_add hfl (Nat.le_refl 1)) (by omega)
          case c2 => have := BN9.size; rw [HNN.out] at this; simp; omega
          intro v' w' hown' hgr
          have hNs : N ≤ W9.heap.size := by have := BN9.size; rw [HNN.out] at this; exact this
          have B2 := (B9.alloc B9.size (.cells #[.int .i64 x, .int .i64 y] 29)).grown hgr (by have := B9.size; simp; omega) (fun k hk => by have := (hown9.lt k hk).1; omega)
          have BN2 := (BN9.alloc hNs (.cells #[.int .i64 x, .int .i64 y] 29)).grown hgr (by simp; omega) (fun k hk => (hown9.lt k hk).1)
          have bx2 := (bx9.next (below_new W9 (.cells #[.int .i64 x, .int .i64 y] 29))).keep (hgr.block w.heap.size (by have := bx9.lt; simp; omega) (fun e => by have := (hown9.lt _ e.symm).1; omega))
          have HO2 : Hid (w'.ownsRow N 29 2 v' ((xs.take (k + 1)).filter fun z => decide (z ≠ (m1, m2))).length (((xs.take (k + 1)).filter fun z => decide (z ≠ (m1, m2))).flatMap mC)) := Lib.hid (by rw [HF2.out]; simpa using hown')
          clear hown9 bx9 B9 BN9 c0 c1 hgr hown' HF2
          go_wp2
          go_roundw
          case rel => exact ⟨k + 1, _, _, rfl, rfl, by omega, by go_num, HO2.out, bx2, B2, BN2⟩
          case measure => simp [intOf]; omega
    · have hd : decide (k < xs.length) = false := by simpa using hlt
      have hkk : xs.take k = xs := List.take_of_length_le (by omega)
      rw [hkk] at hown
      obtain ⟨g', c', n', rfl⟩ : ∃ ao n' cap, s = Value.slice ao n' cap := by
        rcases hown.2 with ⟨hv, _⟩ | ⟨g, cap, cur, hv, _⟩
        · exact ⟨_, _, _, hv⟩
        · exact ⟨_, _, _, hv⟩
      have HO := Lib.hid (own_mems hown)
      clear hkk hown
      go_wp2_with fail
      refine (HON.out _ wr (keeps_spots _ _ _ _ _ _ HX.out B B.size) HO.out).mono ?_
      rintro e w' ⟨v', rfl, hv', hb⟩
      have HV := Lib.hid hv'
      replace B := B.trans (hb.mono B.size)
      clear hv' hb
      go_wp2
      go_ret
      rw [HWO.out]
      exact ⟨_, rfl, HV.out, B⟩

end Go.Proofs.YtjnefacdindamaaGreatDoor
