/- lodgelaw12.GraftKeeps answers true, whatever two slices of spots come in, and leaves memory below as it was. No condition. -/
import Derived.Test.YtokhaldnakjiaaaAwake12
import Derived.Test.YtokhaldnakjiaaaGraD
import Derived.Test.YtokhaldnakjiaaaPruR
namespace Go.Proofs.Ytokhaldnakjiaaa
open Go Go.RowKit
set_option linter.unusedVariables false

theorem ht_below {t : Tr} (h : (lvO (some t)).length ≤ 60) : ht t ≤ 60 := by
  have h2 := ht_lt t
  have h3 : (lv (flat t)).length ≤ 60 := h
  omega
theorem apart_two {x y : Option Tr} (h : apartO [x, y] = true) : (lvO x ++ lvO y).Nodup ∧ (lvO x).length + (lvO y).length ≤ 60 := by
  unfold apartO at h
  simp only [Bool.and_eq_true, decide_eq_true_eq] at h
  have e : allO [x, y] = lvO x ++ lvO y := by simp [allO]
  rw [e] at h
  exact ⟨h.1, by simpa using h.2⟩
/-- A slice of two, laid. -/
theorem two_heads (w : World) (a b : Hd) (t : TypeId) (g : Nat) (hg : w.heap.size = g) : Heads (g + 1) (w.alloc (.cells #[.slice a.1 a.2.1 a.2.2, .slice b.1 b.2.1 b.2.2] t)) [a, b] [.slice (some ⟨g, 0, none⟩) 2 2] := by
  subst hg
  refine ⟨some ⟨w.heap.size, 0, none⟩, 2, rfl, Nat.le_refl _, by decide, (fun h => by cases h), fun _ => ⟨w.heap.size, 0, rfl, by omega, fun i hi => ?_⟩⟩
  match i, hi with
  | 0, _ => exact ⟨hC a, rfl, fun j hj => by
      have : j = 0 := by omega
      subst this; simp, rfl⟩
  | 1, _ => exact ⟨hC b, rfl, fun j hj => by
      have : j = 0 := by omega
      subst this; simp, rfl⟩
set_option maxRecDepth 100000 in
set_option maxHeartbeats 16000000 in
theorem graftKeeps_walk (A : Option Addr) (la ca : Nat) (A2 : Option Addr) (lb cb : Nat) (w : World) (h : ∃ xs, Spots w.heap.size w xs [.slice A la ca]) (h' : ∃ ys, Spots w.heap.size w ys [.slice A2 lb cb]) :
    Calls Try.prog 4 #[.slice A la ca, .slice A2 lb cb] w fun e w' => e = .returned (.bool true) ∧ Below w.heap.size w w' := by
  obtain ⟨xs, hx⟩ := h
  have HX := Lib.hid hx
  obtain ⟨_, _, e, hlcHX, hcmHX, _⟩ := spots_at hx
  simp only [Value.slice.injEq] at e
  obtain ⟨rfl, hlHX, rfl⟩ := e
  have hcHX : ca ≤ 9223372036854775807 := Nat.le_trans hcmHX (by decide)
  subst hlHX
  clear hx hcmHX
  obtain ⟨ys, hy⟩ := h'
  have HY := Lib.hid hy
  obtain ⟨_, _, e, hlcHY, hcmHY, _⟩ := spots_at hy
  simp only [Value.slice.injEq] at e
  obtain ⟨rfl, hlHY, rfl⟩ := e
  have hcHY : cb ≤ 9223372036854775807 := Nat.le_trans hcmHY (by decide)
  subst hlHY
  clear hy hcmHY
  obtain ⟨b, hb1, hs1⟩ := small12_any xs
  have HSM := Lib.hid hs1
  obtain ⟨b', hb2, hs2⟩ := small12_any ys
  have HSN := Lib.hid hs2
  clear hs1 hs2
  have B : Below w.heap.size w w := Below.refl _ _
  go_enter Try.func4, Try.ntmps4
  go_wp2_with fail
  refine (HSM.out _ w HX.out).mono ?_
  rintro e W1 ⟨rfl, hb⟩
  replace HX := Lib.hid (keeps_spots _ _ _ _ _ _ HX.out hb hb.size)
  replace HY := Lib.hid (keeps_spots _ _ _ _ _ _ HY.out hb hb.size)
  replace B := B.trans (hb.mono B.size)
  clear hb
  cases b with
  | false =>
    clear hb1 hb2
    go_wp2_with fail
    refine (awake12_any W1).mono ?_
    rintro e W9 ⟨rfl, B9⟩
    go_wp2
    go_ret
    exact ⟨rfl, B.trans (B9.mono B.size)⟩
  | true =>
    obtain ⟨x, rfl, hokx, hlx⟩ := hb1 rfl
    clear hb1
    go_wp2_with fail
    refine (HSN.out _ W1 HY.out).mono ?_
    rintro e W2 ⟨rfl, hb⟩
    replace HX := Lib.hid (keeps_spots _ _ _ _ _ _ HX.out hb hb.size)
    replace HY := Lib.hid (keeps_spots _ _ _ _ _ _ HY.out hb hb.size)
    replace B := B.trans (hb.mono B.size)
    clear hb
    cases b' with
    | false =>
      clear hb2
      go_wp2_with fail
      refine (awake12_any W2).mono ?_
      rintro e W9 ⟨rfl, B9⟩
      go_wp2
      go_ret
      exact ⟨rfl, B.trans (B9.mono B.size)⟩
    | true =>
      obtain ⟨y, rfl, hoky, hly⟩ := hb2 rfl
      clear hb2
      obtain ⟨n1, hn1⟩ : ∃ n, (spo x).length = n := ⟨_, rfl⟩
      obtain ⟨n2, hn2⟩ : ∃ n, (spo y).length = n := ⟨_, rfl⟩
      have HN1 := Lib.hid hn1
      have HN2 := Lib.hid hn2
      rw [hn1] at HX hlcHX hlx
      rw [hn2] at HY hlcHY hly
      rw [hn1, hn2]
      clear hn1 hn2
      go_wp2_with fail
      obtain ⟨W3, hW, hm, hb⟩ : ∃ W, W2.alloc (.cells #[.slice A n1 ca, .slice A2 n2 cb] 24) = W ∧ Heads W.heap.size W [(A, n1, ca), (A2, n2, cb)] [.slice (some ⟨W2.heap.size, 0, none⟩) 2 2] ∧ Below W2.heap.size W2 W := ⟨_, rfl, (by simpa using two_heads W2 (A, n1, ca) (A2, n2, cb) 24 _ rfl), below_new _ _⟩
      rw [hW]
      obtain ⟨gm, hg⟩ : ∃ g, W2.heap.size = g := ⟨_, rfl⟩
      rw [hg] at hm
      try rw [hg]
      replace HX := Lib.hid (keeps_spots _ _ _ _ _ _ HX.out hb hb.size)
      replace HY := Lib.hid (keeps_spots _ _ _ _ _ _ HY.out hb hb.size)
      replace B := B.trans (hb.mono B.size)
      clear hb
      clear hW hg
      have he : Each W3.heap.size W3 [(A, n1, ca), (A2, n2, cb)] [x, y] := (Each.one (h := (A, n1, ca)) HX.out).append (Each.one (h := (A2, n2, cb)) HY.out)
      have hsz : ∀ z ∈ [x, y], (spo z).length ≤ 128 ∧ (lvO z).length ≤ 64 := by
        intro z hz
        simp only [List.mem_cons, List.not_mem_nil, or_false] at hz
        rcases hz with rfl | rfl
        · exact ⟨(okT_parts hokx).1, okT_few hokx⟩
        · exact ⟨(okT_parts hoky).1, okT_few hoky⟩
      refine (apart_any _ _ [x, y] W3 hm he (by simp) hsz).mono ?_
      rintro e W4 ⟨rfl, hb⟩
      replace HX := Lib.hid (keeps_spots _ _ _ _ _ _ HX.out hb hb.size)
      replace HY := Lib.hid (keeps_spots _ _ _ _ _ _ HY.out hb hb.size)
      replace B := B.trans (hb.mono B.size)
      clear hb
      clear hm he hsz
      cases hap : apartO [x, y] with
      | false =>
        clear hap
        go_wp2_with fail
        refine (awake12_any W4).mono ?_
        rintro e W9 ⟨rfl, B9⟩
        go_wp2
        go_ret
        exact ⟨rfl, B.trans (B9.mono B.size)⟩
      | true =>
        obtain ⟨hnd, hcount⟩ := apart_two hap
        clear hap
        have HSX : Hid ((spo x).length ≤ 40) := Lib.hid (by rw [HN1.out]; exact hlx)
        have HSY : Hid ((spo y).length ≤ 40) := Lib.hid (by rw [HN2.out]; exact hly)
        go_wp2_with fail
        refine (refHeightO_any x _ W4 HX.out (Nat.le_trans HSX.out (by decide))).mono ?_
        rintro e W5 ⟨rfl, hb⟩
        replace HX := Lib.hid (keeps_spots _ _ _ _ _ _ HX.out hb hb.size)
        replace HY := Lib.hid (keeps_spots _ _ _ _ _ _ HY.out hb hb.size)
        replace B := B.trans (hb.mono B.size)
        clear hb
        by_cases hht : htO x ≤ 8
        · have hd8 : ¬ (8 < htO x) := by omega
          cases x with
          | none =>
            have hn0 : n1 = 0 := by rw [← HN1.out]; rfl
            subst hn0
            go_wp2_with fail
            refine (awake12_any W5).mono ?_
            rintro e W9 ⟨rfl, B9⟩
            go_wp2
            go_ret
            exact ⟨rfl, B.trans (B9.mono B.size)⟩
          | some t =>
            have hpx : 0 < n1 := by rw [← HN1.out]; exact flat_pos t
            have hzx : ((n1 : Int) == 0) = false := beq_eq_false_iff_ne.2 (by omega)
            cases y with
            | none =>
              have hn0 : n2 = 0 := by rw [← HN2.out]; rfl
              subst hn0
              go_wp2_with fail
              refine (awake12_any W5).mono ?_
              rintro e W9 ⟨rfl, B9⟩
              go_wp2
              go_ret
              exact ⟨rfl, B.trans (B9.mono B.size)⟩
            | some m =>
              have hpy : 0 < n2 := by rw [← HN2.out]; exact flat_pos m
              have hzy : ((n2 : Int) == 0) = false := beq_eq_false_iff_ne.2 (by omega)
              obtain ⟨f1, f2, f3, f4, f5, f6, f7⟩ := graft_facts hokx hoky hnd (by omega) (by omega)
              obtain ⟨p, o, u, hs, hg, hcase⟩ := graft_some t m (show ht t ≤ 60 by have : ht t ≤ 8 := hht; omega)
              have HOK := Lib.hid f1
              have hlz : (spo (graftO (some t) (some m))).length = n1 + n2 + 1 := by
                rw [hg]
                have h1 := put_len hs m
                have h2 : (flat t).length = n1 := HN1.out
                have h3 : (flat m).length = n2 := HN2.out
                show (flat (put t p m)).length = _
                omega
              have HKX : Hid (keepO (lvO (some t)) (graftO (some t) (some m)) = some t) := Lib.hid (by rw [f6 _ (fun z hz hzx => (List.nodup_append.1 hnd).2.2 z hzx z hz rfl)]; exact keep_all (okT_parts hokx).2.1 (fun z hz => hz))
              have HKY : Hid (keepO (lvO (some m)) (graftO (some t) (some m)) = some m) := Lib.hid (by rw [f7 _ (fun z hz hzy => (List.nodup_append.1 hnd).2.2 z hz z hzy rfl)]; exact keep_all (okT_parts hoky).2.1 (fun z hz => hz))
              have hmy : ht m ≤ 60 := ht_below (by omega)
              have hhz : htO (graftO (some t) (some m)) ≤ 200 := by
                have h9 : htO (some m) = ht m := rfl
                omega
              have hm0 := ht_nonneg m
              have ht0 := ht_nonneg t
              have htt : ht t ≤ 8 := hht
              obtain ⟨z, hz⟩ : ∃ z, graftO (some t) (some m) = z := ⟨_, rfl⟩
              rw [hz] at HOK hlz HKX HKY hhz
              have HHZ : Hid (htO z = ht (put t p m)) := Lib.hid (by rw [← hz, hg]; rfl)
              have HGR : Hid (∀ v u w, Spots w.heap.size w (spo (some t)) [v] → Spots w.heap.size w (spo (some m)) [u] → Calls Try.prog 15 #[v, u] w fun e W' => ∃ v', e = .returned v' ∧ Spots W'.heap.size W' (spo z) [v'] ∧ Below w.heap.size w W') := Lib.hid fun v u w h1 h2 => by
                have := gGraft_any v u (some t) (some m) w h1 h2 hokx hoky (by show ht t ≤ 20; omega) (by show ht m ≤ 60; omega) (by rw [hz]; exact HOK.out)
                rwa [hz] at this
              have hlzz : (spo z).length ≤ 100000 := by omega
              have hlkx : (lvO (some t)).length ≤ 100 := by omega
              have hlky : (lvO (some m)).length ≤ 100 := by omega
              clear f1 f2 f3 f4 f5 f6 f7 hs hz hnd
              go_wp2_with fail
              refine (HGR.out _ _ W5 HX.out HY.out).mono ?_
              rintro e W6 ⟨vz, rfl, hvz, hb⟩
              replace HX := Lib.hid (keeps_spots _ _ _ _ _ _ HX.out hb hb.size)
              replace HY := Lib.hid (keeps_spots _ _ _ _ _ _ HY.out hb hb.size)
              replace B := B.trans (hb.mono B.size)
              clear hb
              have HZ := Lib.hid hvz
              clear hvz
              go_wp2_with fail
              refine (refHeightO_any (some m) _ W6 HY.out (Nat.le_trans HSY.out (by decide))).mono ?_
              rintro e W7 ⟨rfl, hb⟩
              replace HX := Lib.hid (keeps_spots _ _ _ _ _ _ HX.out hb hb.size)
              replace HY := Lib.hid (keeps_spots _ _ _ _ _ _ HY.out hb hb.size)
              replace HZ := Lib.hid (keeps_spots _ _ _ _ _ _ HZ.out hb hb.size)
              replace B := B.trans (hb.mono B.size)
              clear hb
              obtain ⟨⟨pl, pi⟩, hpl⟩ : ∃ q, placeO (some t) (ht m) = q := ⟨_, rfl⟩
              have HPL : Hid (∀ v w, Spots w.heap.size w (spo (some t)) [v] → Calls Try.prog 16 #[v, .int .i64 (ht m)] w fun e W' => e = .returned (vM pl pi) ∧ Below w.heap.size w W') := Lib.hid fun v w h1 => by
                have := gPlace_any v (some t) (ht m) w h1 hokx (by show ht t ≤ 20; omega) hm0 (by omega)
                rwa [hpl] at this
              rw [hpl] at hcase
              clear hpl
              have e9 : htO (some m) = ht m := rfl
              rw [e9]
              clear e9
              obtain ⟨hm9, hmm⟩ : ∃ q, ht m = q := ⟨_, rfl⟩
              have HMM := Lib.hid hmm
              rw [hmm] at HPL hm0 hmy
              rw [hmm]
              clear hmm
              go_wp2_with fail
              refine (HPL.out _ W7 HX.out).mono ?_
              rintro e W8 ⟨rfl, hb⟩
              replace HX := Lib.hid (keeps_spots _ _ _ _ _ _ HX.out hb hb.size)
              replace HY := Lib.hid (keeps_spots _ _ _ _ _ _ HY.out hb hb.size)
              replace HZ := Lib.hid (keeps_spots _ _ _ _ _ _ HZ.out hb hb.size)
              replace B := B.trans (hb.mono B.size)
              clear hb
              go_wp2_with fail
              obtain ⟨W9, hW, b6, hb⟩ : ∃ W, W8.alloc (.cells #[.int .i64 pl, .int .i64 pi] 32) = W ∧ Box W W8.heap.size [.int .i64 pl, .int .i64 pi] ∧ Below W8.heap.size W8 W := ⟨_, rfl, Box.new W8 _ _, below_new _ _⟩
              rw [hW]
              obtain ⟨g6, hg6⟩ : ∃ g, W8.heap.size = g := ⟨_, rfl⟩
              rw [hg6] at b6
              try rw [hg6]
              replace HX := Lib.hid (keeps_spots _ _ _ _ _ _ HX.out hb hb.size)
              replace HY := Lib.hid (keeps_spots _ _ _ _ _ _ HY.out hb hb.size)
              replace HZ := Lib.hid (keeps_spots _ _ _ _ _ _ HZ.out hb hb.size)
              replace B := B.trans (hb.mono B.size)
              clear hb
              clear hW hg6
              refine (refHeightO_any z vz W9 HZ.out (Nat.le_trans hlzz (by decide))).mono ?_
              rintro e W10 ⟨rfl, hb⟩
              replace HX := Lib.hid (keeps_spots _ _ _ _ _ _ HX.out hb hb.size)
              replace HY := Lib.hid (keeps_spots _ _ _ _ _ _ HY.out hb hb.size)
              replace HZ := Lib.hid (keeps_spots _ _ _ _ _ _ HZ.out hb hb.size)
              replace b6 := b6.next hb
              replace B := B.trans (hb.mono B.size)
              clear hb
              obtain ⟨hz9, hzz⟩ : ∃ q, htO z = q := ⟨_, rfl⟩
              have HZZ := Lib.hid hzz
              rw [hzz] at hhz
              rw [hzz]
              clear hzz
              go_wp2_with fail
              refine (refHeightO_any (some t) _ W10 HX.out (Nat.le_trans HSX.out (by decide))).mono ?_
              rintro e W11 ⟨rfl, hb⟩
              replace HX := Lib.hid (keeps_spots _ _ _ _ _ _ HX.out hb hb.size)
              replace HY := Lib.hid (keeps_spots _ _ _ _ _ _ HY.out hb hb.size)
              replace HZ := Lib.hid (keeps_spots _ _ _ _ _ _ HZ.out hb hb.size)
              replace b6 := b6.next hb
              replace B := B.trans (hb.mono B.size)
              clear hb
              have e9 : htO (some t) = ht t := rfl
              rw [e9]
              clear e9 hht hd8
              obtain ⟨ht9, htte⟩ : ∃ q, ht t = q := ⟨_, rfl⟩
              have HTT := Lib.hid htte
              rw [htte] at ht0 htt
              rw [htte]
              clear htte
              go_wp2_with fail
              refine (awake12_any W11).mono ?_
              rintro e W12 ⟨rfl, hb⟩
              replace HX := Lib.hid (keeps_spots _ _ _ _ _ _ HX.out hb hb.size)
              replace HY := Lib.hid (keeps_spots _ _ _ _ _ _ HY.out hb hb.size)
              replace HZ := Lib.hid (keeps_spots _ _ _ _ _ _ HZ.out hb hb.size)
              replace b6 := b6.next hb
              replace B := B.trans (hb.mono B.size)
              clear hb
              go_wp2_with fail
              refine ((show Calls _ _ _ _ (fun e W' => e = .returned (.bool true) ∧ Below W12.heap.size W12 W') from by have := refRight_any vz (spo z) W12 HZ.out (by omega); rwa [HOK.out] at this)).mono ?_
              rintro e W13 ⟨rfl, hb⟩
              replace HX := Lib.hid (keeps_spots _ _ _ _ _ _ HX.out hb hb.size)
              replace HY := Lib.hid (keeps_spots _ _ _ _ _ _ HY.out hb hb.size)
              replace HZ := Lib.hid (keeps_spots _ _ _ _ _ _ HZ.out hb hb.size)
              replace b6 := b6.next hb
              replace B := B.trans (hb.mono B.size)
              clear hb
              obtain ⟨AZ, cz, e, -, hcz, -⟩ := spots_at HZ.out
              subst e
              have hcz2 : cz ≤ 9223372036854775807 := Nat.le_trans hcz (by decide)
              clear hcz
              have HLZ := Lib.hid hlz
              rw [hlz] at HZ hlzz
              rw [hlz]
              clear hlz
              go_wp2_with fail
              refine (refLeaves_any _ (spo (some t)) W13 HX.out (Nat.le_trans HSX.out (by decide))).mono ?_
              rintro e W14 ⟨vm1, rfl, hm1, hb⟩
              replace HX := Lib.hid (keeps_spots _ _ _ _ _ _ HX.out hb hb.size)
              replace HY := Lib.hid (keeps_spots _ _ _ _ _ _ HY.out hb hb.size)
              replace HZ := Lib.hid (keeps_spots _ _ _ _ _ _ HZ.out hb hb.size)
              replace b6 := b6.next hb
              replace B := B.trans (hb.mono B.size)
              clear hb
              have HM1 := Lib.hid hm1
              clear hm1
              go_wp2_with fail
              refine (refOnly_any _ _ z (lvO (some t)) W14 HZ.out HM1.out (by rw [HLZ.out]; omega)).mono ?_
              rintro e W15 ⟨vo1, rfl, ho1, hb⟩
              replace HX := Lib.hid (keeps_spots _ _ _ _ _ _ HX.out hb hb.size)
              replace HY := Lib.hid (keeps_spots _ _ _ _ _ _ HY.out hb hb.size)
              replace HZ := Lib.hid (keeps_spots _ _ _ _ _ _ HZ.out hb hb.size)
              replace HM1 := Lib.hid (keeps_mems _ _ _ _ _ _ HM1.out hb hb.size)
              replace b6 := b6.next hb
              replace B := B.trans (hb.mono B.size)
              clear hb
              rw [HKX.out] at ho1
              have HO1 := Lib.hid ho1
              clear ho1
              go_wp2_with fail
              refine ((show Calls _ _ _ _ (fun e W' => e = .returned (.bool true) ∧ Below W15.heap.size W15 W') from by have := sameS_any _ _ (spo (some t)) (spo (some t)) W15 HO1.out HX.out (Nat.le_trans HSX.out (by decide)); rwa [show decide ((spo (some t)) = (spo (some t))) = true from decide_eq_true rfl] at this)).mono ?_
              rintro e W16 ⟨rfl, hb⟩
              replace HX := Lib.hid (keeps_spots _ _ _ _ _ _ HX.out hb hb.size)
              replace HY := Lib.hid (keeps_spots _ _ _ _ _ _ HY.out hb hb.size)
              replace HZ := Lib.hid (keeps_spots _ _ _ _ _ _ HZ.out hb hb.size)
              replace HM1 := Lib.hid (keeps_mems _ _ _ _ _ _ HM1.out hb hb.size)
              replace HO1 := Lib.hid (keeps_spots _ _ _ _ _ _ HO1.out hb hb.size)
              replace b6 := b6.next hb
              replace B := B.trans (hb.mono B.size)
              clear hb
              clear HM1
              clear HO1
              go_wp2_with fail
              refine (refLeaves_any _ (spo (some m)) W16 HY.out (Nat.le_trans HSY.out (by decide))).mono ?_
              rintro e W17 ⟨vm2, rfl, hm2, hb⟩
              replace HX := Lib.hid (keeps_spots _ _ _ _ _ _ HX.out hb hb.size)
              replace HY := Lib.hid (keeps_spots _ _ _ _ _ _ HY.out hb hb.size)
              replace HZ := Lib.hid (keeps_spots _ _ _ _ _ _ HZ.out hb hb.size)
              replace b6 := b6.next hb
              replace B := B.trans (hb.mono B.size)
              clear hb
              have HM2 := Lib.hid hm2
              clear hm2
              go_wp2_with fail
              refine (refOnly_any _ _ z (lvO (some m)) W17 HZ.out HM2.out (by rw [HLZ.out]; omega)).mono ?_
              rintro e W18 ⟨vo2, rfl, ho2, hb⟩
              replace HX := Lib.hid (keeps_spots _ _ _ _ _ _ HX.out hb hb.size)
              replace HY := Lib.hid (keeps_spots _ _ _ _ _ _ HY.out hb hb.size)
              replace HZ := Lib.hid (keeps_spots _ _ _ _ _ _ HZ.out hb hb.size)
              replace HM2 := Lib.hid (keeps_mems _ _ _ _ _ _ HM2.out hb hb.size)
              replace b6 := b6.next hb
              replace B := B.trans (hb.mono B.size)
              clear hb
              rw [HKY.out] at ho2
              have HO2 := Lib.hid ho2
              clear ho2
              go_wp2_with fail
              refine ((show Calls _ _ _ _ (fun e W' => e = .returned (.bool true) ∧ Below W18.heap.size W18 W') from by have := sameS_any _ _ (spo (some m)) (spo (some m)) W18 HO2.out HY.out (Nat.le_trans HSY.out (by decide)); rwa [show decide ((spo (some m)) = (spo (some m))) = true from decide_eq_true rfl] at this)).mono ?_
              rintro e W19 ⟨rfl, hb⟩
              replace HX := Lib.hid (keeps_spots _ _ _ _ _ _ HX.out hb hb.size)
              replace HY := Lib.hid (keeps_spots _ _ _ _ _ _ HY.out hb hb.size)
              replace HZ := Lib.hid (keeps_spots _ _ _ _ _ _ HZ.out hb hb.size)
              replace HM2 := Lib.hid (keeps_mems _ _ _ _ _ _ HM2.out hb hb.size)
              replace HO2 := Lib.hid (keeps_spots _ _ _ _ _ _ HO2.out hb hb.size)
              replace b6 := b6.next hb
              replace B := B.trans (hb.mono B.size)
              clear hb
              clear HM2
              clear HO2
              have q0 := b6.c 0 _ rfl
              have q1 := b6.c 1 _ rfl
              rcases hcase with ⟨hpl, rfl⟩ | ⟨hpl, hpt⟩
              · simp only [Prod.mk.injEq] at hpl
                obtain ⟨rfl, rfl⟩ := hpl
                have hzm : hz9 = 1 + max ht9 hm9 := by
                  rw [← HZZ.out, HHZ.out, put_nil, ← HTT.out, ← HMM.out]
                  rfl
                have hf : (hz9 == ht9) = false := beq_eq_false_iff_ne.2 (by omega)
                have hf2 : ¬ hz9 = ht9 := by omega
                have HZM := Lib.hid hzm
                clear hzm
                go_wp2_with fail
                refine (refHeightO_any (some t) _ W19 HX.out (Nat.le_trans HSX.out (by decide))).mono ?_
                rintro e W20 ⟨rfl, hb⟩
                replace HX := Lib.hid (keeps_spots _ _ _ _ _ _ HX.out hb hb.size)
                replace HY := Lib.hid (keeps_spots _ _ _ _ _ _ HY.out hb hb.size)
                replace HZ := Lib.hid (keeps_spots _ _ _ _ _ _ HZ.out hb hb.size)
                replace b6 := b6.next hb
                replace B := B.trans (hb.mono B.size)
                clear hb
                have e9 : htO (some t) = ht9 := HTT.out
                rw [e9]
                clear e9
                go_wp2_with fail
                refine (refHeightO_any (some m) _ W20 HY.out (Nat.le_trans HSY.out (by decide))).mono ?_
                rintro e W21 ⟨rfl, hb⟩
                replace HX := Lib.hid (keeps_spots _ _ _ _ _ _ HX.out hb hb.size)
                replace HY := Lib.hid (keeps_spots _ _ _ _ _ _ HY.out hb hb.size)
                replace HZ := Lib.hid (keeps_spots _ _ _ _ _ _ HZ.out hb hb.size)
                replace b6 := b6.next hb
                replace B := B.trans (hb.mono B.size)
                clear hb
                have e9 : htO (some m) = hm9 := HMM.out
                rw [e9]
                clear e9 q0 q1
                have q0 := b6.c 0 _ rfl
                have q1 := b6.c 1 _ rfl
                have hzm := HZM.out
                by_cases hmx : ht9 ≤ hm9
                · have hz1 : hz9 = 1 + hm9 := by omega
                  subst hz1
                  clear hzm HZM
                  go_wp2
                  all_goals
                    go_ret
                    exact ⟨rfl, B⟩
                · have hz1 : hz9 = 1 + ht9 := by omega
                  subst hz1
                  clear hzm HZM
                  go_wp2
                  all_goals
                    go_ret
                    exact ⟨rfl, B⟩
              · have hzm : hz9 = ht9 := by rw [← HZZ.out, HHZ.out, hpt, HTT.out]
                subst hzm
                replace hpl : pl ≠ 0 := hpl
                clear hpt
                go_wp2
                go_ret
                exact ⟨rfl, B⟩
        · have hd8 : 8 < htO x := by omega
          go_wp2_with fail
          refine (awake12_any W5).mono ?_
          rintro e W9 ⟨rfl, B9⟩
          go_wp2
          go_ret
          exact ⟨rfl, B.trans (B9.mono B.size)⟩

end Go.Proofs.Ytokhaldnakjiaaa
