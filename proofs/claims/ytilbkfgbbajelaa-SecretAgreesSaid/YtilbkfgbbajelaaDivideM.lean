/- long.Divide where the number is no less than what it is divided by, which is not 0. Conditions: both slices read as limbs; lengths below 2^38. -/
import Derived.Test.YtilbkfgbbajelaaDivide
namespace Go.Proofs.Ytilbkfgbbajelaa
open Go.RowKit Go.Shelf Num
set_option linter.unusedVariables false

theorem start0 {X N D P Z : Nat} (h : X = N) (hz : Z = 0) : X + D * P * Z = N := by
  subst hz
  simpa using h

set_option maxRecDepth 100000 in
set_option maxHeartbeats 8000000 in
theorem divide_main (v u : Value) (xs ys : List Nat) (w : World) (hLa : Lim w.heap.size w v xs) (hLb : Lim w.heap.size w u ys) (hlx : xs.length ≤ 274877906944) (hly : ys.length ≤ 274877906944) (h0 : val ys ≠ 0) (hge : val ys ≤ val xs) :
    Calls Try.prog 53 #[v, u] w fun e W' => ∃ vq vr, e = .returned (.tuple #[vq, vr, .bool true]) ∧ Lim W'.heap.size W' vq (limbs (val xs / val ys)) ∧ Lim W'.heap.size W' vr (limbs (val xs % val ys)) ∧ Below w.heap.size w W' := by
  obtain ⟨i0, hi, hz0, hz1, hz2⟩ := info_parts infoU
  obtain ⟨m, hm, htop, hnb, hMm⟩ := limbs_top (b := val ys) h0
  have hl1 := limbs_len_val hLa.ok
  have hl2 := limbs_len_val hLb.ok
  have hlt := limbs_lt (val xs)
  obtain ⟨A, ca, rfl, _⟩ := id hLa
  obtain ⟨B, cb, rfl, _⟩ := id hLb
  go_enter Try.func53, Try.ntmps53
  go_wp2_with fail
  refine (trim_any _ xs _ hLa (by omega)).mono ?_
  rintro e W1 ⟨r1, rfl, hL1, hB1⟩
  go_wp2_with fail
  refine (trim_any _ ys _ (hLb.next hB1) (by omega)).mono ?_
  rintro e W2 ⟨r2, rfl, hL2, hB2⟩
  replace hL1 := hL1.next hB2
  have hcmp := compare_any r1 r2 _ _ _ hL1 hL2 (by omega) (by omega)
  rw [val_limbs, val_limbs] at hcmp
  have hc0 : decide (cmpN (val xs) (val ys) < 0) = false := by
    rcases Nat.lt_or_ge (val ys) (val xs) with h | h
    · rw [cmpN_gt h]; rfl
    · rw [show val xs = val ys by omega, cmpN_eq]; rfl
  have HC := Lib.hid hcmp
  clear hcmp
  have hB12 := hB1.trans (hB2.mono hB1.size)
  clear hB1 hB2 hLa hLb
  have hnl : nbits (lat (limbs (val ys)) m) ≤ 64 := nbits_lim (ok_get (ok_limbs _) m)
  obtain ⟨hnb1, _⟩ := nbits_ge htop
  obtain ⟨_, hlo⟩ := nbits_ge h0
  have hhi : val ys < 2 ^ nbits (val ys) := nbits_le.1 (Nat.le_refl _)
  rw [hnb] at hlo hhi
  have hzer := fun w' : World => zeros_any (lat (limbs (val ys)) m) w' (ok_get (ok_limbs _) m)
  have hvy := val_limbs (val ys)
  have hvx := val_limbs (val xs)
  generalize hds : limbs (val ys) = ds at *
  generalize hns : limbs (val xs) = ns at *
  obtain ⟨s, hs, hs64⟩ : ∃ s, s + nbits (lat ds m) = 64 ∧ s < 64 := ⟨64 - nbits (lat ds m), by omega, by omega⟩
  rw [show 64 - nbits (lat ds m) = s by omega] at hzer
  have HZ := Lib.hid hzer
  clear hzer
  obtain ⟨b2, o2, c2, rfl, hc2, hb2, hcell2⟩ := hL2.at_ (by omega)
  obtain ⟨A1, c1, rfl, _⟩ := id hL1
  have hck2 := hcell2 m (by omega)
  clear hcell2
  have hmn : m < ns.length := by
    rcases Nat.lt_or_ge m ns.length with h | h
    · exact h
    · have h1 : M ^ ns.length ≤ M ^ m := Nat.pow_le_pow_right M_pos h
      omega
  obtain ⟨t, ht⟩ : ∃ t, t + m = ns.length := ⟨ns.length - m, by omega⟩
  have HNB := Lib.hid (And.intro hlo (And.intro hhi (And.intro hMm hlt)))
  clear hlo hhi hMm hlt hnb hge h0 htop
  rw [hm] at HC hc2 ⊢
  have hd : (((m : Int) + 1) == 0) = false := by simp; omega
  have hi1 : (m : Int) < (m : Int) + 1 := by omega
  go_wp2_with fail
  refine HC.out.mono ?_
  rintro e W3 ⟨rfl, hB3⟩
  have hck3 := (hB3.cell (p := ⟨b2, o2 + m, none⟩) hb2).trans hck2
  go_wp2_with fail
  refine (HZ.out _).mono ?_
  rintro e W3' ⟨rfl, rfl⟩
  replace hL1 := hL1.next hB3
  replace hL2 := hL2.next hB3
  have hB := hB12.trans (hB3.mono hB12.size)
  clear hB3 hB12 hck3 hck2 hc0 hd hi1 HC HZ
  go_upto_region 7 with fail
  go_cut [10, 11] (fun s10 s11 wx => ∃ (f h : Nat → Nat) (g1 g2 : Nat), s10 = .slice (some ⟨g1, 0, none⟩) (ns.length + 1) (ns.length + 1) ∧ s11 = .slice (some ⟨g2, 0, none⟩) (m + 1) (m + 1 + 1) ∧ Row wx g1 (ns.length + 1) f ∧ Row wx g2 (m + 1 + 1) h ∧ g1 < g2 ∧ w.heap.size ≤ g1 ∧
      sm f 0 (ns.length + 1) = 2 ^ s * val xs ∧ sm h 0 (m + 1 + 1) = 2 ^ s * val ys ∧ Below w.heap.size w wx)
  case first =>
    have K1 := fun (W : World) (hW : Below W3.heap.size W3 W) => shiftUp_any _ ns s W (hL1.next hW) (by omega) hs64
    have K2 := fun (W : World) (hW : Below W3.heap.size W3 W) => shiftUp_any _ ds s W (hL2.next hW) (by omega) hs64
    rw [hm] at K2
    have j1 : (m : Int) + 1 ≤ (m : Int) + 1 + 1 := by omega
    have j2 : m + 1 ≤ m + 1 + 1 := by omega
    go_region_with (first
      | (go_at_call 67; refine (K2 _ ((Below.refl W3.heap.size W3).drew.trans hBf)).mono ?_; rintro e W5 ⟨h, rfl, hRh, hBh, hsh⟩)
      | (go_at_call 67; refine (K1 W3.drew (Below.refl _ _).drew).mono ?_; rintro e W4 ⟨f, rfl, hRf, hBf, hsf⟩))
    go_wp2_with fail
    go_meet
    have hg := hRf.lt
    have z1 : W3.heap.size ≤ W4.heap.size := hBf.size
    exact ⟨f, h, W3.heap.size, W4.heap.size, rfl, rfl, hRf.below hBh hg, hRh, hg, hB.size, by rw [← hvx]; exact hsf, by rw [← hvy]; exact hsh, (hB.drew.trans (hBf.mono hB.size)).trans (hBh.mono (Nat.le_trans hB.size z1))⟩
  case rest =>
    clear hB hL1 hL2
    obtain ⟨f0, h, g1, g2, rfl, rfl, hR0, hRh, hg12, hg1, hf0, hh0, hB⟩ := hcut
    obtain ⟨nlo, nhi, nMm, nlt⟩ := HNB.out
    obtain ⟨n1, n2, n3⟩ := norm_top hRh.1 hh0 hs hnb1 nlo nhi
    have hst := div_start ht hf0 nlt nMm
    have hDp : 0 < 2 ^ s * val ys := Nat.mul_pos (Nat.two_pow_pos s) (Nat.lt_of_lt_of_le (Nat.pow_pos M_pos) nMm)
    clear hh0 nlo nhi nMm nlt HNB
    rw [n1] at n3
    generalize hD : 2 ^ s * val ys = D at *
    go_wp2_with (refine wpList_make_row _ rfl _ _ 28 rfl 32 i0 (.int .u64 0) Try.underlying28 hi hz0 hz1 rfl .i64 .i64 t (congrArg (Value.int .i64) (by omega)) (congrArg (Value.int .i64) (by omega)) (by rw [hz2]; omega) (by omega) ?_)
    have hRq := row_made wc t
    have hR1 := hR0.alloc (.cells (madeCells #[.int .u64 0] t) 32)
    have hR2 := hRh.alloc (.cells (madeCells #[.int .u64 0] t) 32)
    have hB1 : Below w.heap.size w (wc.alloc (.cells (madeCells #[.int .u64 0] t) 32)) := hB.alloc hB.size _
    have hg23 := hRh.lt
    clear hR0 hRh hB
    generalize wc.alloc (.cells (madeCells #[.int .u64 0] t) 32) = w1 at *
    generalize wc.heap.size = g3 at *
    have e0 : ns.length + 1 - t = m + 1 := by omega
    rw [← e0] at hst
    go_loopw [13] (fun i wr => ∃ (c : Nat) (f q : Nat → Nat), c ≤ t ∧ i = .int .i64 ((c : Int) - 1) ∧ Row wr g1 (ns.length + 1) f ∧ Row wr g2 (m + 1 + 1) h ∧ Row wr g3 t q ∧ Below w.heap.size w wr ∧
        sm f c (ns.length + 1 - c) < D ∧ sm f 0 (ns.length + 1) + D * M ^ c * sm q c (t - c) = 2 ^ s * val xs)
      (fun i _ => (intOf i + 1).toNat)
    case atStart => exact ⟨t, f0, fun _ => 0, Nat.le_refl _, congrArg (Value.int .i64) (by omega), hR1, hR2, hRq, hB1, hst, start0 hf0 (sm_nought (fun _ _ => rfl))⟩
    case round =>
      obtain ⟨c, f, q, hc, rfl, hRf, hRh, hRq, hB, hhi, hN⟩ := hrel
      clear hR1 hR2 hB1 hst hf0 e0
      have HHI := Lib.hid hhi
      have HN := Lib.hid hN
      clear hhi hN
      rcases Nat.eq_zero_or_pos c with rfl | hpos
      · rw [show (((0 : Nat) : Int) - 1) = -1 by omega]
        have hWq := hRq.whole t (Nat.le_refl _)
        have hWf := hRf.whole (ns.length + 1) (Nat.le_refl _)
        go_wp2_with fail
        refine (trim_any _ _ _ hWq (by rw [upto_length]; omega)).mono ?_
        rintro e W7 ⟨vq, rfl, hLq, hB7⟩
        have K := shiftDown_any _ _ s W7 (hWf.next hB7) (by rw [upto_length]; omega) hs64
        rw [upto_length] at K
        have HK := Lib.hid K
        clear K
        go_wp2_with fail
        refine HK.out.mono ?_
        rintro e W8 ⟨f8, rfl, hR8, hB8, hs8⟩
        have hW8 := hR8.whole (ns.length + 1) (Nat.le_refl _)
        go_wp2_with fail
        refine (trim_any _ _ _ hW8 (by rw [upto_length]; omega)).mono ?_
        rintro e W9 ⟨vr, rfl, hLr, hB9⟩
        go_wp2
        go_ret3
        have hN := HN.out
        have hhi := HHI.out
        rw [← hD, show t - 0 = t from rfl] at hN
        rw [show ns.length + 1 - 0 = ns.length + 1 from rfl, ← hD] at hhi
        obtain ⟨x1, x2⟩ := div_end hN hhi
        rw [val_upto_sm, x1] at hLq
        rw [val_upto_sm, hs8, val_upto_sm, x2] at hLr
        exact ⟨vq, vr, rfl, (hLq.next hB8).next hB9, hLr, ((hB.trans (hB7.mono hB.size)).trans (hB8.mono (Nat.le_trans hB.size hB7.size))).trans (hB9.mono (Nat.le_trans (Nat.le_trans hB.size hB7.size) hB8.size))⟩
      · obtain ⟨k, rfl⟩ : ∃ k, c = k + 1 := ⟨c - 1, by omega⟩
        rw [show (((k + 1 : Nat) : Int) - 1) = (k : Int) by omega]
        have b1 : k + (m + 1) + 1 ≤ ns.length + 1 := by omega
        have b2 : (k : Int) + ((m : Int) + 1) + 1 ≤ (ns.length : Int) + 1 := by omega
        have b3 : k ≤ k + (m + 1) + 1 := by omega
        have hOff := hRh.off (g' := g1) (by omega) 0 (m + 1) (m + 1 + 1) (by omega) (by omega)
        have hbl : (upto (fun j => h (0 + j)) (m + 1)).length = m + 1 := upto_length _ _
        have hbv : val (upto (fun j => h (0 + j)) (m + 1)) = D := by rw [val_upto_sm, sm_shift]; exact n1
        have hbt : lat (upto (fun j => h (0 + j)) (m + 1)) m = h m := by rw [lat_upto _ (by omega), Nat.zero_add]
        generalize upto (fun j => h (0 + j)) (m + 1) = bs at *
        have hh2 := HHI.out
        rw [Nat.add_sub_add_right] at hh2
        obtain ⟨l1, l2⟩ := div_lt hRf.1 (Nat.le_of_lt n3) (show k + (m + 1) ≤ ns.length by omega) hh2
        have hdig : sm f k (m + 2) / D < M := (Nat.div_lt_iff_lt_mul hDp).2 l1
        have K := takeAll_any g1 (ns.length + 1) k (ns.length + 1 - k) m f _ bs wr hRf hOff hbl (by omega) (by omega) (by rw [hbt]; exact n2) (by rw [hbv]; exact l1) (by omega) (by omega)
        rw [hbv] at K
        have HK := Lib.hid K
        have HH2 := Lib.hid hh2
        clear K hh2 l1 l2 hOff hbl hbv hbt
        go_wp2_with fail
        rw [show k + (m + 1) + 1 - k = m + 2 by omega]
        refine HK.out.mono ?_
        rintro e W2 ⟨f', rfl, hRf', hO, hfo, hfr⟩
        have HFO := Lib.hid hfo
        have HFR := Lib.hid hfr
        clear HK hfo hfr
        have hRq' := hRq.of_block (hO.block g3 (by omega))
        have hRh' := hRh.of_block (hO.block g2 (by omega))
        have hB' : Below w.heap.size w W2 := hB.trans (hO.below hg1)
        obtain ⟨qd, hqd⟩ : ∃ qd, qd = sm f k (m + 2) / D := ⟨_, rfl⟩
        rw [← hqd] at hdig ⊢
        have HQD := Lib.hid hqd
        clear hqd
        have hcs := hRq'.cell (j := k) (by omega)
        have hfz := hRq'.frozen k
        have hkt : (k : Int) < (t : Int) := by omega
        have hkt' : k < t := by omega
        go_wp2_with fail
        go_roundw
        case rel =>
          refine ⟨k, f', upd q k qd, by omega, by go_num, hRf'.of_block (Below.heap_setCell _ _ _ _ (show g1 ≠ g3 by omega)), hRh'.of_block (Below.heap_setCell _ _ _ _ (show g2 ≠ g3 by omega)), hRq'.set k hdig, hB'.setCell (p := ⟨g3, k, none⟩) (show w.heap.size ≤ g3 by omega) _, ?_⟩
          have hst := div_step (q := q) (N := 2 ^ s * val xs) hRf.1 hDp (Nat.le_of_lt n3) ht (show k < t by omega) HH2.out HN.out HFO.out HFR.out
          rw [← HQD.out] at hst
          exact hst
        case measure => simp [intOf]

/-- By what is not 0, whichever is more. -/
theorem divide_any (v u : Value) (xs ys : List Nat) (w : World) (hLa : Lim w.heap.size w v xs) (hLb : Lim w.heap.size w u ys) (hlx : xs.length ≤ 274877906944) (hly : ys.length ≤ 274877906944) (h0 : val ys ≠ 0) :
    Calls Try.prog 53 #[v, u] w fun e W' => ∃ vq vr, e = .returned (.tuple #[vq, vr, .bool true]) ∧ Lim W'.heap.size W' vq (limbs (val xs / val ys)) ∧ Lim W'.heap.size W' vr (limbs (val xs % val ys)) ∧ Below w.heap.size w W' := by
  rcases Nat.lt_or_ge (val xs) (val ys) with h | h
  · refine (divide_less v u xs ys w hLa hLb hlx hly h).mono ?_
    rintro e W' ⟨vr, rfl, hr, hB⟩
    refine ⟨_, vr, rfl, ?_, ?_, hB⟩
    · rw [Nat.div_eq_of_lt h, limbs_zero]
      exact Lim.nil _ _
    · rw [Nat.mod_eq_of_lt h]
      exact hr
  · exact divide_main v u xs ys w hLa hLb hlx hly h0 h

end Go.Proofs.Ytilbkfgbbajelaa
