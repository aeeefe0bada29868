/- (modulus.odd).times answers Montgomery's product of two numbers of as many limbs as the odd number has. Conditions: the slices read as limbs; the inverse is the lowest limb's; lengths below 2^38. -/
import Derived.Test.YtilbkfgbbajelaaModF
import Derived.StillTailTactics
namespace Go.Proofs.Ytilbkfgbbajelaa
open Go.RowKit Go.Shelf Num
set_option linter.unusedVariables false

/-- Answers a list of L limbs that, times 2^64 to the L, leaves of m what n leaves. -/
def Monts (L n m : Nat) (w : World) : Ending → World → Prop := fun e W' => ∃ r rs, e = .returned r ∧ Lim W'.heap.size W' r rs ∧ rs.length = L ∧ val rs * M ^ L % m = n % m ∧ Below w.heap.size w W'

theorem neg_wrap {s : Nat} (h : s < M) : IntKind.u64.wrap (-(s : Int)) = (((M - s) % M : Nat) : Int) := by
  unfold M at *
  rw [IntKind.wrap_u64]
  omega
theorem mulU_wrap {s : Nat} (h : s < M) (i : Nat) : IntKind.u64.wrap (IntKind.u64.wrap (-(s : Int)) * (i : Int)) = ((mulU s i : Nat) : Int) := by
  rw [neg_wrap h, IntKind.wrap_u64]
  unfold mulU
  have := Int.natCast_mul ((M - s) % M) i
  have h2 := Int.natCast_emod ((M - s) % M * i) M
  rw [h2, this]
  rfl

theorem mont_left0 {R X y m q S : Nat} (h : R * (S + R * 0) = X * y + q * m) : S * R % m = X * y % m := mont_left (V := S) (by rwa [Nat.mul_zero, Nat.add_zero] at h) (.inl rfl)
theorem mont_left1 {R X y m q S S' : Nat} (h : R * (S + R * 1) = X * y + q * m) (e : S' + m = S + R * 1) : S' * R % m = X * y % m := mont_left h (.inr e)
theorem unit_pos {m n i : Nat} (h : m % M = n) (hi : n * i % M = 1) : 0 < m := by
  rcases Nat.eq_zero_or_pos m with h0 | h0
  · rw [h0, Nat.zero_mod] at h
    rw [← h, Nat.zero_mul, Nat.zero_mod] at hi
    omega
  · exact h0

set_option maxRecDepth 100000 in
set_option maxHeartbeats 8000000 in
theorem times_any (v vx vy : Value) (ms xs ys : List Nat) (i l : Nat) (w : World) (hLm : Lim w.heap.size w v ms) (hLx : Lim w.heap.size w vx xs) (hLy : Lim w.heap.size w vy ys)
    (hlm : ms.length = l + 1) (hlx : xs.length = l + 1) (hly : ys.length = l + 1) (hl : l ≤ 137438953472) (hi1 : i < M) (hinv : lat ms 0 * i % M = 1) :
    Calls Try.prog 82 #[.agg #[v, .int .u64 (i : Int)], vx, vy] w (Monts (l + 1) (val xs * val ys) (val ms) w) := by
  obtain ⟨i0, hi, hz0, hz1, hz2⟩ := info_parts infoU
  have hom := hLm.ok
  have hox := hLx.ok
  have hoy := hLy.ok
  obtain ⟨A, ca, rfl, hca, hna, _, hra⟩ := id hLm
  obtain ⟨B, cb, rfl, hcb, hnb, _, hrb⟩ := id hLx
  obtain ⟨C, cc, rfl, hcc, hnc, _, hrc⟩ := id hLy
  have hml := val_low hom (by omega)
  rw [hlm] at hLm hca hra
  rw [hlx] at hLx hcb hrb
  rw [hly] at hLy hcc hrc
  rw [hlm, hlx, hly]
  go_enter Try.func82, Try.ntmps82
  go_wp2_with (refine wpList_make_row _ rfl _ _ 28 rfl 32 i0 (.int .u64 0) Try.underlying28 hi hz0 hz1 rfl .i64 .i64 (2 * (l + 1)) (congrArg (Value.int .i64) (by omega)) (congrArg (Value.int .i64) (by omega)) (by rw [hz2]; omega) (by omega) ?_)
  have hR0 := row_made (w.alloc (.cells #[.slice A (l + 1) ca, .int .u64 (i : Int)] 72)) (2 * (l + 1))
  have hB0 : Below w.heap.size w ((w.alloc (.cells #[.slice A (l + 1) ca, .int .u64 (i : Int)] 72)).alloc (.cells (madeCells #[.int .u64 0] (2 * (l + 1))) 32)) := ((Below.refl _ w).alloc (Nat.le_refl _) _).alloc (by simp) _
  have hb0 : ((w.alloc (.cells #[.slice A (l + 1) ca, .int .u64 (i : Int)] 72)).alloc (.cells (madeCells #[.int .u64 0] (2 * (l + 1))) 32)).cell? ⟨w.heap.size, 0, none⟩ = some (.slice A (l + 1) ca) := by simp
  have hb1 : ((w.alloc (.cells #[.slice A (l + 1) ca, .int .u64 (i : Int)] 72)).alloc (.cells (madeCells #[.int .u64 0] (2 * (l + 1))) 32)).cell? ⟨w.heap.size, 1, none⟩ = some (.int .u64 (i : Int)) := by simp
  rw [World.size_alloc] at hR0
  generalize (w.alloc (.cells #[.slice A (l + 1) ca, .int .u64 (i : Int)] 72)).alloc (.cells (madeCells #[.int .u64 0] (2 * (l + 1))) 32) = w1 at *
  go_loopw [9, 24] (fun c k wr => ∃ (n cn q : Nat) (f : Nat → Nat), n ≤ l + 1 ∧ k = .int .i64 n ∧ c = .int .u64 (cn : Int) ∧ cn ≤ 1 ∧ Row wr (w.heap.size + 1) (2 * (l + 1)) f ∧ Only (w.heap.size + 1) w1 wr ∧
      q < M ^ n ∧ M ^ n * (sm f n (l + 1) + M ^ (l + 1) * cn) = sm (lat xs) 0 n * val ys + q * val ms)
    (fun _ k _ => l + 1 - (intOf k).toNat)
  case atStart =>
    refine ⟨0, 0, 0, fun _ => 0, Nat.zero_le _, rfl, rfl, Nat.zero_le _, hR0, Only.refl _ _, by rw [Nat.pow_zero]; exact Nat.one_pos, ?_⟩
    rw [sm_nought (fun _ _ => rfl), sm_zero, Nat.mul_zero, Nat.add_zero, Nat.mul_zero, Nat.zero_mul, Nat.zero_mul]
  case round =>
    obtain ⟨n, cn, q, f, hn, rfl, rfl, hcn, hR, hO, hq, he⟩ := hrel
    have HE := Lib.hid he
    have HQ := Lib.hid hq
    clear he hq
    have hb0' : wr.cell? ⟨w.heap.size, 0, none⟩ = some (.slice A (l + 1) ca) := (World.cell?_of_block (w := w1) (hO.block w.heap.size (by omega))).trans hb0
    have hb1' : wr.cell? ⟨w.heap.size, 1, none⟩ = some (.int .u64 (i : Int)) := (World.cell?_of_block (w := w1) (hO.block w.heap.size (by omega))).trans hb1
    by_cases hlt : n < l + 1
    · obtain ⟨b, off, rfl, hbg, hcell⟩ := hrb (by omega)
      have hck : wr.cell? ⟨b, off + n, none⟩ = some (.int .u64 ((lat xs n : Nat) : Int)) := ((World.cell?_of_block (w := w1) (hO.block b (by omega))).trans (hB0.cell (p := ⟨b, off + n, none⟩) hbg)).trans (hcell n (by omega))
      have hBw := hB0.trans (hO.below (B := w.heap.size) (by omega))
      have hd : decide (n < l + 1) = true := by simpa using hlt
      have hx := ok_get hox n
      have hc1 : n ≤ 2 * (l + 1) := by omega
      have hc2 : (n : Int) ≤ ((2 * (l + 1) : Nat) : Int) := by omega
      have hc3 : (n : Int) ≤ 2 * ((l : Int) + 1) := by omega
      go_wp2_with fail
      refine (maddTimes_any (w.heap.size + 1) (2 * (l + 1)) n (2 * (l + 1) - n) (2 * (l + 1) - n) f _ ys (lat xs n) wr hR ((hLy.below hBw).off (by omega)) (by omega) (by omega) (Nat.le_refl _) hx (by omega) (by omega)).mono ?_
      rintro e W1 ⟨c1, f1, rfl, hc1M, hR1, hO1, hf1, he1⟩
      rw [hly] at hf1 he1
      have HE1 := Lib.hid he1
      clear he1 hf1
      have hO' := hO.trans hO1
      have hb2 : W1.cell? ⟨w.heap.size, 0, none⟩ = some (.slice A (l + 1) ca) := (World.cell?_of_block (w := w1) (hO'.block w.heap.size (by omega))).trans hb0
      have hb3 : W1.cell? ⟨w.heap.size, 1, none⟩ = some (.int .u64 (i : Int)) := (World.cell?_of_block (w := w1) (hO'.block w.heap.size (by omega))).trans hb1
      have hcs := hR1.cell (j := n) (by omega)
      have hBw1 := hB0.trans (hO'.below (B := w.heap.size) (by omega))
      have hs1 := hR1.lim n
      have hk1 : n < 2 * (l + 1) := by omega
      have hk2 : (n : Int) < 2 * ((l : Int) + 1) := by omega
      have hk3 : (n : Int) < ((2 * (l + 1) : Nat) : Int) := by omega
      go_wp2_with fail
      go_still_tail 13, (by kernel_rfl)
      change wpList _ _ _ _ _ W1.drew
      have hR1' := hR1.drewN 1
      go_wp2_with fail
      rw [mulU_wrap hs1 i]
      have hOd : Only (w.heap.size + 1) w1 W1.drew := hO'.drewN 1
      have hBd : Below w.heap.size w W1.drew := hB0.trans (hOd.below (by omega))
      refine (maddTimes_any (w.heap.size + 1) (2 * (l + 1)) n (2 * (l + 1) - n) (2 * (l + 1) - n) f1 _ ms (mulU (f1 n) i) W1.drew hR1' ((hLm.below hBd).off (by omega)) (by omega) (by omega) (Nat.le_refl _) (mulU_lt _ _) (by omega) (by omega)).mono ?_
      rintro e W2 ⟨c2, f2, rfl, hc2M, hR2, hO2, hf2, he2⟩
      rw [hlm] at hf2 he2
      have hz := mont_low hR1.1 hR2.1 he2 hml (mulU_low hs1 hinv)
      have hrd := mont_round (c := cn) hR2.1 HE.out HE1.out he2 hz
      have hq2 := q_next HQ.out (mulU_lt (f1 n) i)
      rw [← carry_lo, ← carry_hi] at hrd
      have hle := carry_le hc1M hc2M hcn
      rw [← carry_hi] at hle
      have HRD := Lib.hid hrd
      have HQ2 := Lib.hid hq2
      clear he2 hf2 hrd hq2 hz HE HE1 HQ
      have hO3 := hOd.trans hO2
      have ha1 : ∀ w, (callFunc 44 #[.int .u64 (c1 : Int), .int .u64 (c2 : Int), .int .u64 0]).run Try.prog w = _ := fun w => add64 c1 c2 0 (by omega) w
      have ha2 : ∀ w, (callFunc 44 #[.int .u64 ((addLo c1 c2 0 : Nat) : Int), .int .u64 0, .int .u64 (cn : Int)]).run Try.prog w = _ := fun w => add64 (addLo c1 c2 0) 0 cn hcn w
      have hcs2 := hR2.cell (j := n + (l + 1)) (by omega)
      have hfz2 := hR2.frozen (n + (l + 1))
      have hj1 : n + (l + 1) < 2 * (l + 1) := by omega
      have hj2 : (n : Int) + ((l : Int) + 1) < 2 * ((l : Int) + 1) := by omega
      have hj3 : ((n + (l + 1) : Nat) : Int) < ((2 * (l + 1) : Nat) : Int) := by omega
      have hwr : IntKind.u64.wrap (((addHi (addLo c1 c2 0) 0 cn : Nat) : Int) + ((addHi c1 c2 0 : Nat) : Int)) = ((addHi (addLo c1 c2 0) 0 cn + addHi c1 c2 0 : Nat) : Int) := wrap_add (by unfold M; omega)
      go_wp2_with fail
      go_roundw
      case rel =>
        refine ⟨n + 1, addHi (addLo c1 c2 0) 0 cn + addHi c1 c2 0, q + M ^ n * mulU (f1 n) i, upd f2 (n + (l + 1)) (addLo (addLo c1 c2 0) 0 cn), by omega, by go_num, ?_, hle, hR2.set _ (addLo_lt _ _ _), hO3.set _ _, HQ2.out, ?_⟩
        · exact congrArg (Value.int .u64) (Int.natCast_add _ _).symm
        · rw [sm_succ (lat xs), Nat.zero_add n]
          exact HRD.out
      case measure => simp [intOf]; omega
    · obtain rfl : n = l + 1 := by omega
      have hd : decide (l + 1 < l + 1) = false := by simp
      have hmp := unit_pos hml hinv
      have hsx : sm (lat xs) 0 (l + 1) = val xs := by rw [val_sm, hlx]
      have hx2 := val_lt hox
      have hy2 := val_lt hoy
      rw [hlx] at hx2
      rw [hly] at hy2
      have he := HE.out
      rw [hsx] at he
      have hV := mont_bound (pow_M_pos (l + 1)) he hx2 HQ.out (by omega)
      have HV := Lib.hid hV
      have HE2 := Lib.hid he
      have HY2 := Lib.hid hy2
      clear HE HQ he hx2 hy2 hV hsx
      have e1 : 2 * (l + 1) - (l + 1) = l + 1 := by omega
      have hg1 : l + 1 ≤ 2 * (l + 1) := by omega
      have hg2 : (l : Int) + 1 ≤ 2 * ((l : Int) + 1) := by omega
      have hBw := hB0.trans (hO.below (B := w.heap.size) (by omega))
      rcases Nat.eq_zero_or_pos cn with rfl | hc0
      · have hL := hR.part wr.heap.size (l + 1) (l + 1) (l + 1) hR.lt (by omega) (by omega)
        go_wp2
        go_ret
        refine ⟨_, _, rfl, hL, by rw [upto_length], ?_, hBw⟩
        rw [val_upto_sm, sm_shift]
        exact mont_left0 HE2.out
      · obtain rfl : cn = 1 := by omega
        go_wp2_with fail
        refine (takeOff_any (w.heap.size + 1) (2 * (l + 1)) (l + 1) (l + 1) (l + 1) f _ ms wr hR ((hLm.below hBw).off (by omega)) (by omega) (by omega) (Nat.le_refl _) (by omega) (by omega)).mono ?_
        rintro e W3 ⟨bo, f', rfl, hbo, hR3, hO3, hf3, he3⟩
        rw [hlm] at he3
        have hlt3 := sm_lt hR3.1 (l + 1) (l + 1)
        have hfin := mont_off hbo HV.out HY2.out he3 hlt3
        have HFI := Lib.hid hfin
        clear hf3 he3 hlt3 hfin
        have hL := hR3.part W3.heap.size (l + 1) (l + 1) (l + 1) hR3.lt (by omega) (by omega)
        have hO4 := hO.trans hO3
        go_wp2
        go_ret
        refine ⟨_, _, rfl, hL, by rw [upto_length], ?_, hB0.trans (hO4.below (by omega))⟩
        rw [val_upto_sm, sm_shift]
        exact mont_left1 HE2.out HFI.out

end Go.Proofs.Ytilbkfgbbajelaa
