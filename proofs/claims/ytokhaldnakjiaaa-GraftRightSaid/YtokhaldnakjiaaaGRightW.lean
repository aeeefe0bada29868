/- lodgelaw12.GraftRight answers true, whatever two slices of spots and label come in, and leaves memory below as it was. No condition. -/
import Derived.Test.YtokhaldnakjiaaaAwake12
import Derived.Test.YtokhaldnakjiaaaGraD
import Derived.Test.YtokhaldnakjiaaaPruR
import Derived.Test.YtokhaldnakjiaaaGKeepsW
import Derived.Test.YtokhaldnakjiaaaMemH
import Derived.Test.YtokhaldnakjiaaaOpens
import Derived.Deep.RegionWith
namespace Go.Proofs.Ytokhaldnakjiaaa
open Go Go.RowKit
set_option linter.unusedVariables false

/-- A label of any parameter. -/
theorem opens_L : Opens Try.prog 32 IsM := fun enc w fuel cs x h => by
  obtain ⟨⟨a, b, c⟩, ha, hb, hc⟩ := opens_struct (R := Both 1 (IsInt .i64) (Both 1 (IsInt .i64) Nought)) Try.underlying32 (by kernel_rfl) (opensF_cons rfl (by kernel_rfl) (opens_int Try.underlying3) (opensF_cons rfl (by kernel_rfl) (opens_int Try.underlying3) (opensF_nil 2))) enc w fuel cs x h
  refine ⟨(a, b), ?_⟩
  match cs, ha, hb, hc with
  | [u, v], ha, hb, hc => 
    simp [IsInt] at ha hb
    show _ = _
    rw [ha.1, hb.1]
/-- What is at a label behind a put. -/
theorem put_part {t m : Tr} {L I : Int} : (partO (some t) L I = [] ∧ putO (some t) L I (some m) = some t) ∨ ∃ u : Tr, partO (some t) L I = flat u ∧ partO (putO (some t) L I (some m)) L I = joinS (flat u) (flat m) ∧ (flat u).length ≤ (flat t).length ∧ (spo (putO (some t) L I (some m))).length = (flat t).length + (flat m).length + 1 := by
  by_cases ho : okL L I = true
  · cases hs : sub t (path L.toNat I.toNat) with
    | none =>
      left
      refine ⟨by simp [partO, ho, subO, hs], ?_⟩
      simp only [putO]
      rw [if_pos ho, put_none t _ m hs]
    | some q =>
      obtain ⟨o, u⟩ := q
      right
      have e : putO (some t) L I (some m) = some (put t (path L.toNat I.toNat) m) := by simp only [putO]; rw [if_pos ho]
      have hle := sub_le hs
      refine ⟨u, by simp [partO, ho, subO, hs], ?_, by omega, ?_⟩
      · rw [e]
        simp only [partO, ho, if_true, subO, put_sub t _ m o u hs]
        unfold joinS
        rw [if_neg (flat_ne u), if_neg (flat_ne m)]
        rfl
      · rw [e]
        exact put_len hs m
  · left
    refine ⟨by simp [partO, ho], ?_⟩
    simp only [putO]
    rw [if_neg ho]
theorem graft_first (t m : Tr) (hh : ht t ≤ 60) : ∃ f r r', lvO (some t) = f :: r ∧ lvO (graftO (some t) (some m)) = f :: r' := by
  obtain ⟨p, o, u, hs, hg, -⟩ := graft_some t m hh
  obtain ⟨a, b, h1, h2, h3⟩ := put_lv hs m
  cases a with
  | nil => exact absurd rfl h2
  | cons f a =>
    refine ⟨f, a ++ b, a ++ (lv (flat m) ++ b), h1, ?_⟩
    rw [hg]
    exact h3
theorem leaves_first (v : Value) (xs : List Sp) (f : Int × Int) (r : List (Int × Int)) (w : World) (h : Spots w.heap.size w xs [v]) (hn : xs.length ≤ 1000000) (hf : lv xs = f :: r) :
    Calls Try.prog 19 #[v] w fun e W' => ∃ b off n c, e = .returned (.slice (some ⟨b, off, none⟩) n c) ∧ 0 < n ∧ n ≤ 1000000 ∧ c ≤ 9223372036854775807 ∧ b < W'.heap.size ∧ W'.cell? ⟨b, off, none⟩ = some (.int .i64 f.1) ∧ W'.cell? ⟨b, off + 1, none⟩ = some (.int .i64 f.2) ∧ Below w.heap.size w W' := by
  refine (refLeaves_any v xs w h hn).mono ?_
  rintro e W' ⟨v', rfl, hm, hb⟩
  obtain ⟨A, cap, rfl, hl, hc, hp⟩ := mems_at hm
  have hpos : 0 < (lv xs).length := by rw [hf]; simp
  obtain ⟨b, off, rfl, hbn, h0, h1⟩ := hp 0 hpos
  have e0 : (lv xs)[0] = f := by simp only [hf]; rfl
  rw [e0] at h0 h1
  simp only [Nat.zero_mul, Nat.add_zero] at h0 h1
  exact ⟨b, off, _, cap, rfl, hpos, Nat.le_trans (lv_length_le xs) hn, Nat.le_trans hc (by decide), hbn, h0, h1, hb⟩
set_option maxRecDepth 100000 in
set_option maxHeartbeats 16000000 in
theorem graftRight_walk (A : Option Addr) (la ca : Nat) (A2 : Option Addr) (lb cb : Nat) (c : Array Value) (w : World) (h : ∃ xs, Spots w.heap.size w xs [.slice A la ca]) (h' : ∃ ys, Spots w.heap.size w ys [.slice A2 lb cb]) (h'' : ∃ m, IsM w.heap.size w m c.toList) :
    Calls Try.prog 7 #[.slice A la ca, .slice A2 lb cb, .agg c] w fun e w' => e = .returned (.bool true) ∧ Below w.heap.size w w' := by
  obtain ⟨xs, hx⟩ := h
  have HX := Lib.hid hx
  obtain ⟨_, _, e, hlcHX, hcmHX, _⟩ := spots_at hx
  simp only [Value.slice.injEq] at e
  obtain ⟨rfl, hlHX, rfl⟩ := e
  have hcHX : ca ≤ 9223372036854775807 := Nat.le_trans hcmHX (by decide)
  subst hlHX
  clear hx hcmHX
  obtain ⟨ys, hy⟩ := h'
  have HY := Lib.hid hy
  obtain ⟨_, _, e, hlcHY, hcmHY, _⟩ := spots_at hy
  simp only [Value.slice.injEq] at e
  obtain ⟨rfl, hlHY, rfl⟩ := e
  have hcHY : cb ≤ 9223372036854775807 := Nat.le_trans hcmHY (by decide)
  subst hlHY
  clear hy hcmHY
  obtain ⟨⟨L, J⟩, hm⟩ := h''
  obtain rfl : c = #[.int .i64 L, .int .i64 J] := by
    have hm : c.toList = [.int .i64 L, .int .i64 J] := hm
    rw [← Array.toArray_toList (xs := c), hm]
  clear hm
  obtain ⟨b, hb1, hs1⟩ := small12_any xs
  have HSM := Lib.hid hs1
  obtain ⟨b', hb2, hs2⟩ := small12_any ys
  have HSN := Lib.hid hs2
  clear hs1 hs2
  go_enter Try.func7, Try.ntmps7
  go_wp2_with fail
  obtain ⟨W0, hW0, b5, B⟩ : ∃ W0, w.alloc (.cells #[.int .i64 L, .int .i64 J] 32) = W0 ∧ Box W0 w.heap.size [.int .i64 L, .int .i64 J] ∧ Below w.heap.size w W0 := ⟨_, rfl, Box.new w _ _, below_new _ _⟩
  rw [hW0]
  clear hW0
  replace HX := Lib.hid (keeps_spots _ _ _ _ _ _ HX.out B B.size)
  replace HY := Lib.hid (keeps_spots _ _ _ _ _ _ HY.out B B.size)
  refine (HSM.out _ W0 HX.out).mono ?_
  rintro e W1 ⟨rfl, hb⟩
  replace HX := Lib.hid (keeps_spots _ _ _ _ _ _ HX.out hb hb.size)
  replace HY := Lib.hid (keeps_spots _ _ _ _ _ _ HY.out hb hb.size)
  replace b5 := b5.next hb
  replace B := B.trans (hb.mono B.size)
  clear hb
  cases b with
  | false =>
    clear hb1 hb2
    go_wp2_with fail
    refine (awake12_any W1).mono ?_
    rintro e W9 ⟨rfl, B9⟩
    go_wp2
    go_ret
    exact ⟨rfl, B.trans (B9.mono B.size)⟩
  | true =>
    obtain ⟨x, rfl, hokx, hlx⟩ := hb1 rfl
    clear hb1
    go_wp2_with fail
    refine (HSN.out _ W1 HY.out).mono ?_
    rintro e W2 ⟨rfl, hb⟩
    replace HX := Lib.hid (keeps_spots _ _ _ _ _ _ HX.out hb hb.size)
    replace HY := Lib.hid (keeps_spots _ _ _ _ _ _ HY.out hb hb.size)
    replace b5 := b5.next hb
    replace B := B.trans (hb.mono B.size)
    clear hb
    cases b' with
    | false =>
      clear hb2
      go_wp2_with fail
      refine (awake12_any W2).mono ?_
      rintro e W9 ⟨rfl, B9⟩
      go_wp2
      go_ret
      exact ⟨rfl, B.trans (B9.mono B.size)⟩
    | true =>
      obtain ⟨y, rfl, hoky, hly⟩ := hb2 rfl
      clear hb2
      obtain ⟨n1, hn1⟩ : ∃ n, (spo x).length = n := ⟨_, rfl⟩
      obtain ⟨n2, hn2⟩ : ∃ n, (spo y).length = n := ⟨_, rfl⟩
      have HN1 := Lib.hid hn1
      have HN2 := Lib.hid hn2
      rw [hn1] at HX hlcHX hlx
      rw [hn2] at HY hlcHY hly
      rw [hn1, hn2]
      clear hn1 hn2
      go_wp2_with fail
      obtain ⟨W3, hW, hm, hb⟩ : ∃ W, W2.alloc (.cells #[.slice A n1 ca, .slice A2 n2 cb] 24) = W ∧ Heads W.heap.size W [(A, n1, ca), (A2, n2, cb)] [.slice (some ⟨W2.heap.size, 0, none⟩) 2 2] ∧ Below W2.heap.size W2 W := ⟨_, rfl, (by simpa using two_heads W2 (A, n1, ca) (A2, n2, cb) 24 _ rfl), below_new _ _⟩
      rw [hW]
      obtain ⟨gm, hg⟩ : ∃ g, W2.heap.size = g := ⟨_, rfl⟩
      rw [hg] at hm
      try rw [hg]
      replace HX := Lib.hid (keeps_spots _ _ _ _ _ _ HX.out hb hb.size)
      replace HY := Lib.hid (keeps_spots _ _ _ _ _ _ HY.out hb hb.size)
      replace b5 := b5.next hb
      replace B := B.trans (hb.mono B.size)
      clear hb
      clear hW hg
      have he : Each W3.heap.size W3 [(A, n1, ca), (A2, n2, cb)] [x, y] := (Each.one (h := (A, n1, ca)) HX.out).append (Each.one (h := (A2, n2, cb)) HY.out)
      have hsz : ∀ z ∈ [x, y], (spo z).length ≤ 128 ∧ (lvO z).length ≤ 64 := by
        intro z hz
        simp only [List.mem_cons, List.not_mem_nil, or_false] at hz
        rcases hz with rfl | rfl
        · exact ⟨(okT_parts hokx).1, okT_few hokx⟩
        · exact ⟨(okT_parts hoky).1, okT_few hoky⟩
      refine (apart_any _ _ [x, y] W3 hm he (by simp) hsz).mono ?_
      rintro e W4 ⟨rfl, hb⟩
      replace HX := Lib.hid (keeps_spots _ _ _ _ _ _ HX.out hb hb.size)
      replace HY := Lib.hid (keeps_spots _ _ _ _ _ _ HY.out hb hb.size)
      replace b5 := b5.next hb
      replace B := B.trans (hb.mono B.size)
      clear hb
      clear hm he hsz
      cases hap : apartO [x, y] with
      | false =>
        clear hap
        go_wp2_with fail
        refine (awake12_any W4).mono ?_
        rintro e W9 ⟨rfl, B9⟩
        go_wp2
        go_ret
        exact ⟨rfl, B.trans (B9.mono B.size)⟩
      | true =>
        obtain ⟨hnd, hcount⟩ := apart_two hap
        clear hap
        have HSX : Hid ((spo x).length ≤ 40) := Lib.hid (by rw [HN1.out]; exact hlx)
        have HSY : Hid ((spo y).length ≤ 40) := Lib.hid (by rw [HN2.out]; exact hly)
        cases x with
        | none =>
          have hn0 : n1 = 0 := by rw [← HN1.out]; rfl
          subst hn0
          go_wp2_with fail
          refine (awake12_any W4).mono ?_
          rintro e W9 ⟨rfl, B9⟩
          go_wp2
          go_ret
          exact ⟨rfl, B.trans (B9.mono B.size)⟩
        | some t =>
          have hpx : 0 < n1 := by rw [← HN1.out]; exact flat_pos t
          have hzx : ((n1 : Int) == 0) = false := beq_eq_false_iff_ne.2 (by omega)
          cases y with
          | none =>
            have hn0 : n2 = 0 := by rw [← HN2.out]; rfl
            subst hn0
            go_wp2_with fail
            refine (awake12_any W4).mono ?_
            rintro e W9 ⟨rfl, B9⟩
            go_wp2
            go_ret
            exact ⟨rfl, B.trans (B9.mono B.size)⟩
          | some m =>
            have hpy : 0 < n2 := by rw [← HN2.out]; exact flat_pos m
            have hzy : ((n2 : Int) == 0) = false := beq_eq_false_iff_ne.2 (by omega)
            go_wp2_with fail
            refine (refHeightO_any (some t) _ W4 HX.out (Nat.le_trans HSX.out (by decide))).mono ?_
            rintro e W5 ⟨rfl, hb⟩
            replace HX := Lib.hid (keeps_spots _ _ _ _ _ _ HX.out hb hb.size)
            replace HY := Lib.hid (keeps_spots _ _ _ _ _ _ HY.out hb hb.size)
            replace b5 := b5.next hb
            replace B := B.trans (hb.mono B.size)
            clear hb
            by_cases hht : htO (some t) ≤ 8
            · have hd8 : ¬ (8 < htO (some t)) := by omega
              obtain ⟨f1, -, -, f4, f5, -, -⟩ := graft_facts hokx hoky hnd (by omega) (by omega)
              obtain ⟨ff, fr, fr2, hf1, hf2⟩ := graft_first t m (show ht t ≤ 60 by have : ht t ≤ 8 := hht; omega)
              have HOK := Lib.hid f1
              have hmy : ht m ≤ 60 := ht_below (by omega)
              have htt : ht t ≤ 8 := hht
              have hzl : (spo (graftO (some t) (some m))).length ≤ 128 := (okT_parts f1).1
              obtain ⟨z, hz⟩ : ∃ z, graftO (some t) (some m) = z := ⟨_, rfl⟩
              rw [hz] at HOK hf2 hzl
              have HGR : Hid (∀ v u w, Spots w.heap.size w (spo (some t)) [v] → Spots w.heap.size w (spo (some m)) [u] → Calls Try.prog 15 #[v, u] w fun e W' => ∃ v', e = .returned v' ∧ Spots W'.heap.size W' (spo z) [v'] ∧ Below w.heap.size w W') := Lib.hid fun v u w h1 h2 => by
                have := gGraft_any v u (some t) (some m) w h1 h2 hokx hoky (by show ht t ≤ 20; omega) (by show ht m ≤ 60; omega) (by rw [hz]; exact HOK.out)
                rwa [hz] at this
              have HF1 := Lib.hid hf1
              have HF2 := Lib.hid hf2
              have HPP := Lib.hid (put_part (t := t) (m := m) (L := L) (I := J))
              have HPU := Lib.hid (fun v u w (h1 : Spots w.heap.size w (spo (some t)) [v]) (h2 : Spots w.heap.size w (spo (some m)) [u]) => gPut_any v u (some t) (some m) L J w h1 h2 hokx hoky (by show ht t ≤ 20; omega) (by show ht m ≤ 60; omega))
              have hput := putO_len (some t) L J (some m)
              obtain ⟨y, hy⟩ : ∃ y, putO (some t) L J (some m) = y := ⟨_, rfl⟩
              rw [hy] at HPP HPU hput
              have hyl : (spo y).length ≤ 100000 := by have := HSX.out; have := HSY.out; omega
              clear f1 f4 f5 hz hnd hf1 hf2 hy hput hmy
              have q0 := b5.c 0 _ rfl
              have q1 := b5.c 1 _ rfl
              go_wp2_with fail
              refine (refPart_any _ (some t) L J W5 HX.out (Nat.le_trans HSX.out (by decide))).mono ?_
              rintro e W6 ⟨vw, rfl, hw9, hb⟩
              replace HX := Lib.hid (keeps_spots _ _ _ _ _ _ HX.out hb hb.size)
              replace HY := Lib.hid (keeps_spots _ _ _ _ _ _ HY.out hb hb.size)
              replace b5 := b5.next hb
              replace B := B.trans (hb.mono B.size)
              clear hb
              have HW := Lib.hid hw9
              clear hw9
              replace q0 := b5.c 0 _ rfl
              replace q1 := b5.c 1 _ rfl
              go_wp2_with fail
              refine (HPU.out _ _ W6 HX.out HY.out).mono ?_
              rintro e W7 ⟨vy, rfl, hy9, hb⟩
              replace HX := Lib.hid (keeps_spots _ _ _ _ _ _ HX.out hb hb.size)
              replace HY := Lib.hid (keeps_spots _ _ _ _ _ _ HY.out hb hb.size)
              replace HW := Lib.hid (keeps_spots _ _ _ _ _ _ HW.out hb hb.size)
              replace b5 := b5.next hb
              replace B := B.trans (hb.mono B.size)
              clear hb
              have HYY := Lib.hid hy9
              clear hy9
              go_wp2_with fail
              refine (HGR.out _ _ W7 HX.out HY.out).mono ?_
              rintro e W8 ⟨vz, rfl, hvz, hb⟩
              replace HX := Lib.hid (keeps_spots _ _ _ _ _ _ HX.out hb hb.size)
              replace HY := Lib.hid (keeps_spots _ _ _ _ _ _ HY.out hb hb.size)
              replace HW := Lib.hid (keeps_spots _ _ _ _ _ _ HW.out hb hb.size)
              replace HYY := Lib.hid (keeps_spots _ _ _ _ _ _ HYY.out hb hb.size)
              replace b5 := b5.next hb
              replace B := B.trans (hb.mono B.size)
              clear hb
              have HZ := Lib.hid hvz
              clear hvz
              clear q0 q1
              obtain ⟨f1, f2⟩ := ff
              have K1 := fun (W : World) (hB : Below W8.heap.size W8 W) => leaves_first vz (spo z) (f1, f2) fr2 W (keeps_spots _ _ _ _ _ _ HZ.out hB hB.size) (by omega) HF2.out
              have K3 := fun (W : World) (hB : Below W8.heap.size W8 W) => leaves_first _ (spo (some t)) (f1, f2) fr W (keeps_spots _ _ _ _ _ _ HX.out hB hB.size) (Nat.le_trans HSX.out (by decide)) HF1.out
              have D0 : Below W8.heap.size W8 W8.drew := ⟨rfl, rfl, rfl, Nat.le_refl _, fun _ _ => rfl⟩
              go_wp2_with fail
              go_region_with (first
                | (go_at_call 19; refine (K3 _ D2).mono ?_; rintro e V3 ⟨b3, o3, n3, c3, rfl, hn3, hn3b, hc3, hb3, h30, h31, hB3⟩; have D3 := D2.trans (hB3.mono D2.size); have h20 := (hB3.cell (p := ⟨b2, o2, none⟩) hb2).trans h20; have h21 := (hB3.cell (p := ⟨b2, o2 + 1, none⟩) hb2).trans h21; have hz3 : (0 : Int) < (n3 : Int) := by omega)
                | (go_at_call 19; refine (K1 _ D1).mono ?_; rintro e V2 ⟨b2, o2, n2x, c2, rfl, hn2, hn2b, hc2, hb2, h20, h21, hB2⟩; have D2 := D1.trans (hB2.mono D1.size); have hz2 : (0 : Int) < (n2x : Int) := by omega)
                | (go_at_call 19; refine (K1 _ D0).mono ?_; rintro e V1 ⟨b1, o1, n1x, c1, rfl, hn1, hn1b, hc1, hb1, h10, h11, hB1⟩; have D1 := D0.trans (hB1.mono D0.size); have hz1 : ((n1x : Int) == 0) = false := beq_eq_false_iff_ne.2 (by omega)))
              all_goals
                have hb := D3
                clear K1 K3 D0 D1 D2 D3 hB1 hB2 hB3 h10 h11 h20 h21 h30 h31 hz1 hz2 hz3 hn1 hn1b hn2 hn2b hn3 hn3b hc1 hc2 hc3 hb1 hb2 hb3
                replace HX := Lib.hid (keeps_spots _ _ _ _ _ _ HX.out hb hb.size)
                replace HY := Lib.hid (keeps_spots _ _ _ _ _ _ HY.out hb hb.size)
                replace HW := Lib.hid (keeps_spots _ _ _ _ _ _ HW.out hb hb.size)
                replace HYY := Lib.hid (keeps_spots _ _ _ _ _ _ HYY.out hb hb.size)
                replace HZ := Lib.hid (keeps_spots _ _ _ _ _ _ HZ.out hb hb.size)
                replace b5 := b5.next hb
                replace B := B.trans (hb.mono B.size)
                clear hb
                rcases HPP.out with ⟨hp0, hy0⟩ | ⟨u, hpu, hpy, hul, hyn⟩
                · subst hy0
                  have hw0 := HW.out
                  rw [hp0] at hw0
                  obtain ⟨Aw, cw, rfl, -, -⟩ := spots_len hw0 0 rfl
                  clear hw0 hp0 HPP HW
                  go_wp2_with fail
                  refine (awake12_any V3).mono ?_
                  rintro e U9 ⟨rfl, hb⟩
                  replace HX := Lib.hid (keeps_spots _ _ _ _ _ _ HX.out hb hb.size)
                  replace HY := Lib.hid (keeps_spots _ _ _ _ _ _ HY.out hb hb.size)
                  replace HYY := Lib.hid (keeps_spots _ _ _ _ _ _ HYY.out hb hb.size)
                  replace HZ := Lib.hid (keeps_spots _ _ _ _ _ _ HZ.out hb hb.size)
                  replace b5 := b5.next hb
                  replace B := B.trans (hb.mono B.size)
                  clear hb
                  go_wp2_with fail
                  refine ((show Calls _ _ _ _ (fun e W' => e = .returned (.bool true) ∧ Below U9.heap.size U9 W') from by have := sameS_any _ _ (spo (some t)) (spo (some t)) U9 HYY.out HX.out (Nat.le_trans HSX.out (by decide)); rwa [show decide ((spo (some t)) = (spo (some t))) = true from decide_eq_true rfl] at this)).mono ?_
                  rintro e U10 ⟨rfl, hb⟩
                  replace HX := Lib.hid (keeps_spots _ _ _ _ _ _ HX.out hb hb.size)
                  replace HY := Lib.hid (keeps_spots _ _ _ _ _ _ HY.out hb hb.size)
                  replace HYY := Lib.hid (keeps_spots _ _ _ _ _ _ HYY.out hb hb.size)
                  replace HZ := Lib.hid (keeps_spots _ _ _ _ _ _ HZ.out hb hb.size)
                  replace b5 := b5.next hb
                  replace B := B.trans (hb.mono B.size)
                  clear hb
                  go_wp2
                  go_ret
                  exact ⟨rfl, B⟩
                · have hw0 := HW.out
                  rw [hpu] at hw0
                  obtain ⟨nw, hnw⟩ : ∃ n, (flat u).length = n := ⟨_, rfl⟩
                  obtain ⟨Aw, cw, rfl, -, hcw⟩ := spots_len hw0 nw hnw
                  have HW := Lib.hid hw0
                  have hnwp : 0 < nw := by rw [← hnw]; exact flat_pos u
                  have hzw : ((nw : Int) == 0) = false := beq_eq_false_iff_ne.2 (by omega)
                  have hnwl : nw ≤ 100000 := by have : (flat t).length ≤ 40 := HSX.out; omega
                  have HNW := Lib.hid hnw
                  have HPY := Lib.hid hpy
                  have hyn2 : (spo y).length = n1 + n2 + 1 := by have h1 : (flat t).length = n1 := HN1.out; have h2 : (flat m).length = n2 := HN2.out; rw [hyn, h1, h2]
                  obtain ⟨Ay, cy, rfl, -, hcy⟩ := spots_len HYY.out (n1 + n2 + 1) hyn2
                  have HYN := Lib.hid hyn2
                  have hfm : (flat m).length ≤ 40 := HSY.out
                  clear hw0 hpu HPP hnw hpy hyn hyn2
                  go_wp2_with fail
                  refine (awake12_any V3).mono ?_
                  rintro e U9 ⟨rfl, hb⟩
                  replace HX := Lib.hid (keeps_spots _ _ _ _ _ _ HX.out hb hb.size)
                  replace HY := Lib.hid (keeps_spots _ _ _ _ _ _ HY.out hb hb.size)
                  replace HW := Lib.hid (keeps_spots _ _ _ _ _ _ HW.out hb hb.size)
                  replace HYY := Lib.hid (keeps_spots _ _ _ _ _ _ HYY.out hb hb.size)
                  replace HZ := Lib.hid (keeps_spots _ _ _ _ _ _ HZ.out hb hb.size)
                  replace b5 := b5.next hb
                  replace B := B.trans (hb.mono B.size)
                  clear hb
                  have q0 := b5.c 0 _ rfl
                  have q1 := b5.c 1 _ rfl
                  go_wp2_with fail
                  refine (refPart_any _ y L J U9 HYY.out (by rw [HYN.out]; omega)).mono ?_
                  rintro e U10 ⟨va, rfl, ha, hb⟩
                  replace HX := Lib.hid (keeps_spots _ _ _ _ _ _ HX.out hb hb.size)
                  replace HY := Lib.hid (keeps_spots _ _ _ _ _ _ HY.out hb hb.size)
                  replace HW := Lib.hid (keeps_spots _ _ _ _ _ _ HW.out hb hb.size)
                  replace HYY := Lib.hid (keeps_spots _ _ _ _ _ _ HYY.out hb hb.size)
                  replace HZ := Lib.hid (keeps_spots _ _ _ _ _ _ HZ.out hb hb.size)
                  replace b5 := b5.next hb
                  replace B := B.trans (hb.mono B.size)
                  clear hb
                  rw [HPY.out] at ha
                  have HA := Lib.hid ha
                  clear ha
                  go_wp2_with fail
                  refine (refJoinS_any _ _ (flat u) (flat m) U10 HW.out HY.out (by rw [HNW.out]; omega)).mono ?_
                  rintro e U11 ⟨vj, rfl, hj, hb⟩
                  replace HX := Lib.hid (keeps_spots _ _ _ _ _ _ HX.out hb hb.size)
                  replace HY := Lib.hid (keeps_spots _ _ _ _ _ _ HY.out hb hb.size)
                  replace HW := Lib.hid (keeps_spots _ _ _ _ _ _ HW.out hb hb.size)
                  replace HYY := Lib.hid (keeps_spots _ _ _ _ _ _ HYY.out hb hb.size)
                  replace HZ := Lib.hid (keeps_spots _ _ _ _ _ _ HZ.out hb hb.size)
                  replace HA := Lib.hid (keeps_spots _ _ _ _ _ _ HA.out hb hb.size)
                  replace b5 := b5.next hb
                  replace B := B.trans (hb.mono B.size)
                  clear hb
                  have HJ := Lib.hid hj
                  clear hj
                  go_wp2_with fail
                  refine ((show Calls _ _ _ _ (fun e W' => e = .returned (.bool true) ∧ Below U11.heap.size U11 W') from by have := sameS_any va vj (joinS (flat u) (flat m)) (joinS (flat u) (flat m)) U11 HA.out HJ.out (Nat.le_trans (joinS_len _ _) (by rw [HNW.out]; omega)); rwa [show decide ((joinS (flat u) (flat m)) = (joinS (flat u) (flat m))) = true from decide_eq_true rfl] at this)).mono ?_
                  rintro e U12 ⟨rfl, hb⟩
                  replace HX := Lib.hid (keeps_spots _ _ _ _ _ _ HX.out hb hb.size)
                  replace HY := Lib.hid (keeps_spots _ _ _ _ _ _ HY.out hb hb.size)
                  replace HW := Lib.hid (keeps_spots _ _ _ _ _ _ HW.out hb hb.size)
                  replace HYY := Lib.hid (keeps_spots _ _ _ _ _ _ HYY.out hb hb.size)
                  replace HZ := Lib.hid (keeps_spots _ _ _ _ _ _ HZ.out hb hb.size)
                  replace HA := Lib.hid (keeps_spots _ _ _ _ _ _ HA.out hb hb.size)
                  replace HJ := Lib.hid (keeps_spots _ _ _ _ _ _ HJ.out hb hb.size)
                  replace b5 := b5.next hb
                  replace B := B.trans (hb.mono B.size)
                  clear hb
                  go_wp2
                  go_ret
                  exact ⟨rfl, B⟩
            · have hd8 : 8 < htO (some t) := by omega
              go_wp2_with fail
              refine (awake12_any W5).mono ?_
              rintro e W9 ⟨rfl, B9⟩
              go_wp2
              go_ret
              exact ⟨rfl, B.trans (B9.mono B.size)⟩

end Go.Proofs.Ytokhaldnakjiaaa
