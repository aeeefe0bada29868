/- Several texts in one: each part says what it proves, and under which conditions. -/
import Derived.Test.YtjnefacdindamaaGreatDoorModFA
import Derived.StillTailTactics
import Derived.Test.YtjnefacdindamaaGreatDoorModLA
import Derived.Deep.RegionHeld3
import Derived.Deep.DeepCutAuto

/- (modulus.odd).times answers Montgomery's product of two numbers of as many limbs as the odd number has. Conditions: the slices read as limbs; the inverse is the lowest limb's; lengths below 2^38. -/
namespace Go.Proofs.YtjnefacdindamaaGreatDoor
open Go.RowKit Go.Shelf Num
set_option linter.unusedVariables false
set_option maxRecDepth 100000

/-- Answers a list of L limbs that, times 2^64 to the L, leaves of m what n leaves. -/
def Monts (L n m : Nat) (w : World) : Ending → World → Prop := fun e W' => ∃ r rs, e = .returned r ∧ Lim W'.heap.size W' r rs ∧ rs.length = L ∧ val rs * M ^ L % m = n % m ∧ Below w.heap.size w W'

theorem neg_wrap {s : Nat} (h : s < M) : IntKind.u64.wrap (-(s : Int)) = (((M - s) % M : Nat) : Int) := by
  unfold M at *
  rw [IntKind.wrap_u64]
  omega
theorem mulU_wrap {s : Nat} (h : s < M) (i : Nat) : IntKind.u64.wrap (IntKind.u64.wrap (-(s : Int)) * (i : Int)) = ((mulU s i : Nat) : Int) := by
  rw [neg_wrap h, IntKind.wrap_u64]
  unfold mulU
  have := Int.natCast_mul ((M - s) % M) i
  have h2 := Int.natCast_emod ((M - s) % M * i) M
  rw [h2, this]
  rfl

theorem mont_left0 {R X y m q S : Nat} (h : R * (S + R * 0) = X * y + q * m) : S * R % m = X * y % m := mont_left (V := S) (by rwa [Nat.mul_zero, Nat.add_zero] at h) (.inl rfl)
theorem mont_left1 {R X y m q S S' : Nat} (h : R * (S + R * 1) = X * y + q * m) (e : S' + m = S + R * 1) : S' * R % m = X * y % m := mont_left h (.inr e)
theorem unit_pos {m n i : Nat} (h : m % M = n) (hi : n * i % M = 1) : 0 < m := by
  rcases Nat.eq_zero_or_pos m with h0 | h0
  · rw [h0, Nat.zero_mod] at h
    rw [← h, Nat.zero_mul, Nat.zero_mod] at hi
    omega
  · exact h0

set_option maxRecDepth 100000 in
set_option maxHeartbeats 8000000 in
theorem times_any (v vx vy : Value) (ms xs ys : List Nat) (i l : Nat) (w : World) (hLm : Lim w.heap.size w v ms) (hLx : Lim w.heap.size w vx xs) (hLy : Lim w.heap.size w vy ys)
    (hlm : ms.length = l + 1) (hlx : xs.length = l + 1) (hly : ys.length = l + 1) (hl : l ≤ 137438953472) (hi1 : i < M) (hinv : lat ms 0 * i % M = 1) :
    Calls Tryz.prog 112 #[.agg #[v, .int .u64 (i : Int)], vx, vy] w (Monts (l + 1) (val xs * val ys) (val ms) w) := by
  obtain ⟨i0, hi, hz0, hz1, hz2⟩ := info_parts infoU
  have hom := hLm.ok
  have hox := hLx.ok
  have hoy := hLy.ok
  obtain ⟨A, ca, rfl, hca, hna, _, hra⟩ := id hLm
  obtain ⟨B, cb, rfl, hcb, hnb, _, hrb⟩ := id hLx
  obtain ⟨C, cc, rfl, hcc, hnc, _, hrc⟩ := id hLy
  have hml := val_low hom (by omega)
  rw [hlm] at hLm hca hra
  rw [hlx] at hLx hcb hrb
  rw [hly] at hLy hcc hrc
  rw [hlm, hlx, hly]
  go_enter Tryz.func112, Tryz.ntmps112
  go_wp2_with (refine wpList_make_row _ rfl _ _ 69 rfl 74 i0 (.int .u64 0) Tryz.underlying69 hi hz0 hz1 rfl .i64 .i64 (2 * (l + 1)) (congrArg (Value.int .i64) (by omega)) (congrArg (Value.int .i64) (by omega)) (by rw [hz2]; omega) (by omega) ?_)
  have hR0 := row_made (w.alloc (.cells #[.slice A (l + 1) ca, .int .u64 (i : Int)] 123)) (2 * (l + 1))
  have hB0 : Below w.heap.size w ((w.alloc (.cells #[.slice A (l + 1) ca, .int .u64 (i : Int)] 123)).alloc (.cells (madeCells #[.int .u64 0] (2 * (l + 1))) 74)) := ((Below.refl _ w).alloc (Nat.le_refl _) _).alloc (by simp) _
  have hb0 : ((w.alloc (.cells #[.slice A (l + 1) ca, .int .u64 (i : Int)] 123)).alloc (.cells (madeCells #[.int .u64 0] (2 * (l + 1))) 74)).cell? ⟨w.heap.size, 0, none⟩ = some (.slice A (l + 1) ca) := by simp
  have hb1 : ((w.alloc (.cells #[.slice A (l + 1) ca, .int .u64 (i : Int)] 123)).alloc (.cells (madeCells #[.int .u64 0] (2 * (l + 1))) 74)).cell? ⟨w.heap.size, 1, none⟩ = some (.int .u64 (i : Int)) := by simp
  rw [World.size_alloc] at hR0
  generalize (w.alloc (.cells #[.slice A (l + 1) ca, .int .u64 (i : Int)] 123)).alloc (.cells (madeCells #[.int .u64 0] (2 * (l + 1))) 74) = w1 at *
  go_loopw [9, 24] (fun c k wr => ∃ (n cn q : Nat) (f : Nat → Nat), n ≤ l + 1 ∧ k = .int .i64 n ∧ c = .int .u64 (cn : Int) ∧ cn ≤ 1 ∧ Row wr (w.heap.size + 1) (2 * (l + 1)) f ∧ Only (w.heap.size + 1) w1 wr ∧
      q < M ^ n ∧ M ^ n * (sm f n (l + 1) + M ^ (l + 1) * cn) = sm (lat xs) 0 n * val ys + q * val ms)
    (fun _ k _ => l + 1 - (intOf k).toNat)
  case atStart =>
    refine ⟨0, 0, 0, fun _ => 0, Nat.zero_le _, rfl, rfl, Nat.zero_le _, hR0, Only.refl _ _, by rw [Nat.pow_zero]; exact Nat.one_pos, ?_⟩
    rw [sm_nought (fun _ _ => rfl), sm_zero, Nat.mul_zero, Nat.add_zero, Nat.mul_zero, Nat.zero_mul, Nat.zero_mul]
  case round =>
    obtain ⟨n, cn, q, f, hn, rfl, rfl, hcn, hR, hO, hq, he⟩ := hrel
    have HE := Lib.hid he
    have HQ := Lib.hid hq
    clear he hq
    have hb0' : wr.cell? ⟨w.heap.size, 0, none⟩ = some (.slice A (l + 1) ca) := (World.cell?_of_block (w := w1) (hO.block w.heap.size (by omega))).trans hb0
    have hb1' : wr.cell? ⟨w.heap.size, 1, none⟩ = some (.int .u64 (i : Int)) := (World.cell?_of_block (w := w1) (hO.block w.heap.size (by omega))).trans hb1
    by_cases hlt : n < l + 1
    · obtain ⟨b, off, rfl, hbg, hcell⟩ := hrb (by omega)
      have hck : wr.cell? ⟨b, off + n, none⟩ = some (.int .u64 ((lat xs n : Nat) : Int)) := ((World.cell?_of_block (w := w1) (hO.block b (by omega))).trans (hB0.cell (p := ⟨b, off + n, none⟩) hbg)).trans (hcell n (by omega))
      have hBw := hB0.trans (hO.below (B := w.heap.size) (by omega))
      have hd : decide (n < l + 1) = true := by simpa using hlt
      have hx := ok_get hox n
      have hc1 : n ≤ 2 * (l + 1) := by omega
      have hc2 : (n : Int) ≤ ((2 * (l + 1) : Nat) : Int) := by omega
      have hc3 : (n : Int) ≤ 2 * ((l : Int) + 1) := by omega
      go_wp2_with fail
      refine (maddTimes_any (w.heap.size + 1) (2 * (l + 1)) n (2 * (l + 1) - n) (2 * (l + 1) - n) f _ ys (lat xs n) wr hR ((hLy.below hBw).off (by omega)) (by omega) (by omega) (Nat.le_refl _) hx (by omega) (by omega)).mono ?_
      rintro e W1 ⟨c1, f1, rfl, hc1M, hR1, hO1, hf1, he1⟩
      rw [hly] at hf1 he1
      have HE1 := Lib.hid he1
      clear he1 hf1
      have hO' := hO.trans hO1
      have hb2 : W1.cell? ⟨w.heap.size, 0, none⟩ = some (.slice A (l + 1) ca) := (World.cell?_of_block (w := w1) (hO'.block w.heap.size (by omega))).trans hb0
      have hb3 : W1.cell? ⟨w.heap.size, 1, none⟩ = some (.int .u64 (i : Int)) := (World.cell?_of_block (w := w1) (hO'.block w.heap.size (by omega))).trans hb1
      have hcs := hR1.cell (j := n) (by omega)
      have hBw1 := hB0.trans (hO'.below (B := w.heap.size) (by omega))
      have hs1 := hR1.lim n
      have hk1 : n < 2 * (l + 1) := by omega
      have hk2 : (n : Int) < 2 * ((l : Int) + 1) := by omega
      have hk3 : (n : Int) < ((2 * (l + 1) : Nat) : Int) := by omega
      go_wp2_with fail
      go_still_tail 13, (by kernel_rfl)
      change wpList _ _ _ _ _ W1.drew
      have hR1' := hR1.drewN 1
      go_wp2_with fail
      rw [mulU_wrap hs1 i]
      have hOd : Only (w.heap.size + 1) w1 W1.drew := hO'.drewN 1
      have hBd : Below w.heap.size w W1.drew := hB0.trans (hOd.below (by omega))
      refine (maddTimes_any (w.heap.size + 1) (2 * (l + 1)) n (2 * (l + 1) - n) (2 * (l + 1) - n) f1 _ ms (mulU (f1 n) i) W1.drew hR1' ((hLm.below hBd).off (by omega)) (by omega) (by omega) (Nat.le_refl _) (mulU_lt _ _) (by omega) (by omega)).mono ?_
      rintro e W2 ⟨c2, f2, rfl, hc2M, hR2, hO2, hf2, he2⟩
      rw [hlm] at hf2 he2
      have hz := mont_low hR1.1 hR2.1 he2 hml (mulU_low hs1 hinv)
      have hrd := mont_round (c := cn) hR2.1 HE.out HE1.out he2 hz
      have hq2 := q_next HQ.out (mulU_lt (f1 n) i)
      rw [← carry_lo, ← carry_hi] at hrd
      have hle := carry_le hc1M hc2M hcn
      rw [← carry_hi] at hle
      have HRD := Lib.hid hrd
      have HQ2 := Lib.hid hq2
      clear he2 hf2 hrd hq2 hz HE HE1 HQ
      have hO3 := hOd.trans hO2
      have ha1 : ∀ w, (callFunc 85 #[.int .u64 (c1 : Int), .int .u64 (c2 : Int), .int .u64 0]).run Tryz.prog w = _ := fun w => add64 c1 c2 0 (by omega) w
      have ha2 : ∀ w, (callFunc 85 #[.int .u64 ((addLo c1 c2 0 : Nat) : Int), .int .u64 0, .int .u64 (cn : Int)]).run Tryz.prog w = _ := fun w => add64 (addLo c1 c2 0) 0 cn hcn w
      have hcs2 := hR2.cell (j := n + (l + 1)) (by omega)
      have hfz2 := hR2.frozen (n + (l + 1))
      have hj1 : n + (l + 1) < 2 * (l + 1) := by omega
      have hj2 : (n : Int) + ((l : Int) + 1) < 2 * ((l : Int) + 1) := by omega
      have hj3 : ((n + (l + 1) : Nat) : Int) < ((2 * (l + 1) : Nat) : Int) := by omega
      have hwr : IntKind.u64.wrap (((addHi (addLo c1 c2 0) 0 cn : Nat) : Int) + ((addHi c1 c2 0 : Nat) : Int)) = ((addHi (addLo c1 c2 0) 0 cn + addHi c1 c2 0 : Nat) : Int) := wrap_add (by unfold M; omega)
      go_wp2_with fail
      go_roundw
      case rel =>
        refine ⟨n + 1, addHi (addLo c1 c2 0) 0 cn + addHi c1 c2 0, q + M ^ n * mulU (f1 n) i, upd f2 (n + (l + 1)) (addLo (addLo c1 c2 0) 0 cn), by omega, by go_num, ?_, hle, hR2.set _ (addLo_lt _ _ _), hO3.set _ _, HQ2.out, ?_⟩
        · exact congrArg (Value.int .u64) (Int.natCast_add _ _).symm
        · rw [sm_succ (lat xs), Nat.zero_add n]
          exact HRD.out
      case measure => simp [intOf]; omega
    · obtain rfl : n = l + 1 := by omega
      have hd : decide (l + 1 < l + 1) = false := by simp
      have hmp := unit_pos hml hinv
      have hsx : sm (lat xs) 0 (l + 1) = val xs := by rw [val_sm, hlx]
      have hx2 := val_lt hox
      have hy2 := val_lt hoy
      rw [hlx] at hx2
      rw [hly] at hy2
      have he := HE.out
      rw [hsx] at he
      have hV := mont_bound (pow_M_pos (l + 1)) he hx2 HQ.out (by omega)
      have HV := Lib.hid hV
      have HE2 := Lib.hid he
      have HY2 := Lib.hid hy2
      clear HE HQ he hx2 hy2 hV hsx
      have e1 : 2 * (l + 1) - (l + 1) = l + 1 := by omega
      have hg1 : l + 1 ≤ 2 * (l + 1) := by omega
      have hg2 : (l : Int) + 1 ≤ 2 * ((l : Int) + 1) := by omega
      have hBw := hB0.trans (hO.below (B := w.heap.size) (by omega))
      rcases Nat.eq_zero_or_pos cn with rfl | hc0
      · have hL := hR.part wr.heap.size (l + 1) (l + 1) (l + 1) hR.lt (by omega) (by omega)
        go_wp2
        go_ret
        refine ⟨_, _, rfl, hL, by rw [upto_length], ?_, hBw⟩
        rw [val_upto_sm, sm_shift]
        exact mont_left0 HE2.out
      · obtain rfl : cn = 1 := by omega
        go_wp2_with fail
        refine (takeOff_any (w.heap.size + 1) (2 * (l + 1)) (l + 1) (l + 1) (l + 1) f _ ms wr hR ((hLm.below hBw).off (by omega)) (by omega) (by omega) (Nat.le_refl _) (by omega) (by omega)).mono ?_
        rintro e W3 ⟨bo, f', rfl, hbo, hR3, hO3, hf3, he3⟩
        rw [hlm] at he3
        have hlt3 := sm_lt hR3.1 (l + 1) (l + 1)
        have hfin := mont_off hbo HV.out HY2.out he3 hlt3
        have HFI := Lib.hid hfin
        clear hf3 he3 hlt3 hfin
        have hL := hR3.part W3.heap.size (l + 1) (l + 1) (l + 1) hR3.lt (by omega) (by omega)
        have hO4 := hO.trans hO3
        go_wp2
        go_ret
        refine ⟨_, _, rfl, hL, by rw [upto_length], ?_, hB0.trans (hO4.below (by omega))⟩
        rw [val_upto_sm, sm_shift]
        exact mont_left1 HE2.out HFI.out

end Go.Proofs.YtjnefacdindamaaGreatDoor


/- modulus.Power answers what a power leaves; by Montgomery's products, of an odd number. Conditions: the slices read as limbs; lengths below 2^36. -/
namespace Go.Proofs.YtjnefacdindamaaGreatDoor
open Go.RowKit Go.Shelf Num
set_option linter.unusedVariables false
set_option maxRecDepth 100000

/-- Lifted: as many limbs as the odd number m, L; a to the power of k, times 2^64 to the L. -/
def Lifted (a m L k : Nat) (xs : List Nat) : Prop := xs.length = L ∧ val xs % m = pm a k m * M ^ L % m

theorem lifted_one {a m L : Nat} {xs : List Nat} (hl : xs.length = L) (h : val xs = 1 * M ^ L % m) : Lifted a m L 0 xs := by
  refine ⟨hl, ?_⟩
  rw [h, Nat.mod_mod, pm_zero, Nat.mod_mul_mod]
theorem lifted_base {a m L : Nat} {xs : List Nat} (hl : xs.length = L) (h : val xs = a % m * M ^ L % m) : Lifted a m L 1 xs := by
  refine ⟨hl, ?_⟩
  rw [h, Nat.mod_mod, pm_one]

theorem odd_low {ms : List Nat} (ho : Ok ms) (hp : 0 < ms.length) (h : val ms % 2 = 1) : lat ms 0 % 2 = 1 := by
  rw [← val_low ho hp]
  unfold M
  omega
theorem odd_len {ms : List Nat} (h : val ms % 2 = 1) : 0 < ms.length := by
  rcases Nat.eq_zero_or_pos ms.length with h0 | h0
  · rw [List.eq_nil_of_length_eq_zero h0] at h
    simp [val] at h
  · exact h0

set_option maxRecDepth 100000 in
set_option maxHeartbeats 8000000 in
theorem oddPower_any (va ve vm : Value) (az es ms : List Nat) (a : Nat) (w : World) (hLa : Lim w.heap.size w va az) (hLe : Lim w.heap.size w ve es) (hLm : Lim w.heap.size w vm ms)
    (hla : az.length ≤ 34359738368) (hle : es.length ≤ 34359738368) (hlm : ms.length ≤ 34359738368) (hodd : val ms % 2 = 1) (ha : val az = a % val ms) :
    Calls Tryz.prog 96 #[va, ve, vm] w (Gives (pm a (val es) (val ms)) w) := by
  have hl1 := limbs_len_val hLm.ok
  have hod := ok_limbs (val ms)
  have hvl := val_limbs (val ms)
  obtain ⟨A, ca, rfl, _⟩ := id hLa
  obtain ⟨B, cb, rfl, _⟩ := id hLe
  obtain ⟨C, cc, rfl, _⟩ := id hLm
  go_enter Tryz.func96, Tryz.ntmps96
  go_wp2_with fail
  refine (trim_any _ ms w hLm (by omega)).mono ?_
  rintro e W1 ⟨r1, rfl, L1, hB1⟩
  generalize limbs (val ms) = ls at *
  generalize val ms = m at *
  subst hvl
  have hp := odd_len hodd
  have hlow := odd_low hod hp hodd
  obtain ⟨b1, o1, c1, rfl, hc1, hb1, hcell⟩ := L1.at_ hp
  have hck := hcell 0 hp
  rw [Nat.add_zero] at hck
  clear hcell
  obtain ⟨l, hl⟩ : ∃ l, ls.length = l + 1 := ⟨ls.length - 1, by omega⟩
  have hlt := ok_get hod 0
  rw [hl]
  rw [hl] at L1
  go_wp2_with fail
  refine (inverseOf_any (lat ls 0) W1 hlt hlow).mono ?_
  rintro e W2 ⟨i, rfl, hi, hinv, rfl⟩
  have hB1w := hB1.size
  go_upto_region 4 with fail
  have hx0 : ((W2.alloc (.cells #[.slice (some ⟨b1, o1, none⟩) (l + 1) c1, .int .u64 (i : Int)] 123)).alloc (.cells #[.int .u64 1] 74)).cell? ⟨W2.heap.size, 0, none⟩ = some (.slice (some ⟨b1, o1, none⟩) (l + 1) c1) := by simp
  have hx1 : ((W2.alloc (.cells #[.slice (some ⟨b1, o1, none⟩) (l + 1) c1, .int .u64 (i : Int)] 123)).alloc (.cells #[.int .u64 1] 74)).cell? ⟨W2.heap.size, 1, none⟩ = some (.int .u64 (i : Int)) := by simp
  have L1' := (L1.alloc (.cells #[.slice (some ⟨b1, o1, none⟩) (l + 1) c1, .int .u64 (i : Int)] 123)).alloc (.cells #[.int .u64 1] 74)
  have La' := ((hLa.next hB1).alloc (.cells #[.slice (some ⟨b1, o1, none⟩) (l + 1) c1, .int .u64 (i : Int)] 123)).alloc (.cells #[.int .u64 1] 74)
  have Le' := ((hLe.next hB1).alloc (.cells #[.slice (some ⟨b1, o1, none⟩) (l + 1) c1, .int .u64 (i : Int)] 123)).alloc (.cells #[.int .u64 1] 74)
  have Lo' := lim_lit1' W2 (.cells #[.slice (some ⟨b1, o1, none⟩) (l + 1) c1, .int .u64 (i : Int)] 123) 1 (small_ok (by omega))
  have hB3 : Below w.heap.size w ((W2.alloc (.cells #[.slice (some ⟨b1, o1, none⟩) (l + 1) c1, .int .u64 (i : Int)] 123)).alloc (.cells #[.int .u64 1] 74)) := (hB1.alloc hB1.size _).alloc (by simp only [World.size_alloc]; omega) _
  have hG3 : W2.heap.size < ((W2.alloc (.cells #[.slice (some ⟨b1, o1, none⟩) (l + 1) c1, .int .u64 (i : Int)] 123)).alloc (.cells #[.int .u64 1] 74)).heap.size := by simp only [World.size_alloc]; omega
  clear hLa hLe hLm hB1 L1
  generalize (W2.alloc (.cells #[.slice (some ⟨b1, o1, none⟩) (l + 1) c1, .int .u64 (i : Int)] 123)).alloc (.cells #[.int .u64 1] 74) = W3 at *
  generalize W2.heap.size = G at *
  have hm0 : val ls ≠ 0 := fun h => by rw [h] at hodd; omega
  have hS0 : W3.drew.cell? ⟨G, 0, none⟩ = some (.slice (some ⟨b1, o1, none⟩) (l + 1) c1) := hx0
  have hS1 : W3.drew.cell? ⟨G, 1, none⟩ = some (.int .u64 (i : Int)) := hx1
  have hBd : Below W3.heap.size W3 W3.drew := (Below.refl _ _).drew
  go_cut [10] (fun s10 wx => ∃ ps, Lim wx.heap.size wx s10 ps ∧ Lifted a (val ls) (l + 1) (val es) ps ∧ Below W3.heap.size W3 wx)
  case first =>
    have K1 : ∀ W, Below W3.heap.size W3 W → Calls Tryz.prog 111 #[.agg #[.slice (some ⟨b1, o1, none⟩) (l + 1) c1, .int .u64 (i : Int)], .slice (some ⟨G + 1, 0, none⟩) 1 1] W (Fills (l + 1) (1 * M ^ (l + 1) % val ls) W) := by
      intro W hW
      have h := lift_any _ _ ls [1] i W (by rw [hl] at *; exact L1'.next hW) (Lo'.next hW) (by omega) (by simp) hm0
      rw [hl, show val [1] = 1 from rfl] at h
      exact h
    have K2 : ∀ W, Below W3.heap.size W3 W → Calls Tryz.prog 111 #[.agg #[.slice (some ⟨b1, o1, none⟩) (l + 1) c1, .int .u64 (i : Int)], .slice A az.length ca] W (Fills (l + 1) (a % val ls * M ^ (l + 1) % val ls) W) := by
      intro W hW
      have h := lift_any _ _ ls az i W (L1'.next hW) (La'.next hW) (by omega) (by omega) hm0
      rw [hl, ha] at h
      exact h
    have HT : ∀ (w : World), Below W3.heap.size W3 w → ∀ (W : World) (x y : Value) (xs ys : List Nat) (k j : Nat), Below w.heap.size w W → Lim W.heap.size W x xs → Lim W.heap.size W y ys → Lifted a (val ls) (l + 1) k xs → Lifted a (val ls) (l + 1) j ys → Calls Tryz.prog 112 #[.agg #[.slice (some ⟨b1, o1, none⟩) (l + 1) c1, .int .u64 (i : Int)], x, y] W (Has (Lifted a (val ls) (l + 1) (k + j)) W) := by
      intro w hw W x y xs ys k j hW hx hy sx sy
      refine (times_any _ x y ls xs ys i l W ((L1'.next hw).next hW) hx hy hl sx.1 sy.1 (by omega) hi hinv).mono ?_
      rintro e W' ⟨r, rs, rfl, Lr, hlr, hvr, hBr⟩
      exact ⟨r, rs, rfl, Lr, ⟨hlr, mont_up hodd sx.2 sy.2 hvr⟩, hBr⟩
    have HK1 := Lib.hid K1
    have HK2 := Lib.hid K2
    have HHT := Lib.hid HT
    clear K1 K2 HT
    have hle5 : es.length ≤ 137438953472 := by omega
    go_region_held3 (fun w' => w'.cell? ⟨G, 0, none⟩ = some (.slice (some ⟨b1, o1, none⟩) (l + 1) c1) ∧ w'.cell? ⟨G, 1, none⟩ = some (.int .u64 (i : Int))) (first | exact ⟨hx0, hx1⟩ | exact ⟨hy0, hy1⟩ | exact ⟨hz0, hz1⟩ | exact ⟨hu0, hu1⟩)
      (first
        | (go_at_call_of 111 (Value.slice A az.length ca); (with_reducible refine (HK2.out W4 hB4).mono ?_); rintro e W5 ⟨rb, rsb, rfl, Lb5, hlb, hvb, hB45⟩; have hB5 := hB4.trans (hB45.mono hB4.size); have hz0 := (hB5.cell (p := ⟨G, 0, none⟩) hG3).trans hx0; have hz1 := (hB5.cell (p := ⟨G, 1, none⟩) hG3).trans hx1; have Lo5 := Lo4.next hB45)
        | (go_at_call_of 111 (Value.slice A az.length ca); (with_reducible refine (HK2.out W3.drew hBd).mono ?_); rintro e W4 ⟨rb, rsb, rfl, Lb4, hlb, hvb, hBb⟩; have hB4 := hBd.trans hBb; have hy0 := (hB4.cell (p := ⟨G, 0, none⟩) hG3).trans hx0; have hy1 := (hB4.cell (p := ⟨G, 1, none⟩) hG3).trans hx1)
        | (go_at_call 111; (with_reducible refine (HK1.out W4 hB4).mono ?_); rintro e W5 ⟨ro, rso, rfl, Lo5, hlo, hvo, hB45⟩; have hB5 := hB4.trans (hB45.mono hB4.size); have hz0 := (hB5.cell (p := ⟨G, 0, none⟩) hG3).trans hx0; have hz1 := (hB5.cell (p := ⟨G, 1, none⟩) hG3).trans hx1; have Lb5 := Lb4.next hB45)
        | (go_at_call 111; (with_reducible refine (HK1.out W3.drew hBd).mono ?_); rintro e W4 ⟨ro, rso, rfl, Lo4, hlo, hvo, hBo⟩; have hB4 := hBd.trans hBo; have hy0 := (hB4.cell (p := ⟨G, 0, none⟩) hG3).trans hx0; have hy1 := (hB4.cell (p := ⟨G, 1, none⟩) hG3).trans hx1)
        | (go_at_call 97; (with_reducible refine (raise_times (Lifted a (val ls) (l + 1)) _ ro rb _ rso rsb es W5 Lo5 Lb5 (Le'.next hB5) hle5 (lifted_one hlo hvo) (lifted_base hlb hvb) (HHT.out W5 hB5)).mono ?_); rintro e W6 ⟨rp, rsp, rfl, Lp, Sp, hB56⟩; have hB6 := hB5.trans (hB56.mono hB5.size); have hu0 := (hB6.cell (p := ⟨G, 0, none⟩) hG3).trans hx0; have hu1 := (hB6.cell (p := ⟨G, 1, none⟩) hG3).trans hx1))
    all_goals (go_wp2_with fail; go_meet; exact ⟨rsp, Lp, Sp, hB6⟩)
  case rest =>
    obtain ⟨ps, Lp, ⟨hlp, hvp⟩, hBp⟩ := hcut
    obtain ⟨P, cp, rfl, _⟩ := id Lp
    rw [hlp] at Lp
    rw [hlp]
    have hx2 := (hBp.cell (p := ⟨G, 0, none⟩) hG3).trans hx0
    have hx3 := (hBp.cell (p := ⟨G, 1, none⟩) hG3).trans hx1
    have hGp : G < wc.heap.size := Nat.lt_of_lt_of_le hG3 hBp.size
    have Lo2 := Lo'.next hBp
    have L2 := L1'.next hBp
    have hB7 := hB3.trans (hBp.mono hB3.size)
    clear Lo' L1' La' Le' hx0 hx1 hS0 hS1 hBd hBp hB3 hG3
    have hS2 : wc.drew.cell? ⟨G, 0, none⟩ = some (.slice (some ⟨b1, o1, none⟩) (l + 1) c1) := hx2
    have hS3 : wc.drew.cell? ⟨G, 1, none⟩ = some (.int .u64 (i : Int)) := hx3
    have hBd : Below wc.heap.size wc wc.drew := (Below.refl _ _).drew
    have K1 : Calls Tryz.prog 113 #[.agg #[.slice (some ⟨b1, o1, none⟩) (l + 1) c1, .int .u64 (i : Int)], .slice (some ⟨G + 1, 0, none⟩) 1 1] wc.drew (Fills (l + 1) 1 wc.drew) := by
      have h := fill_any _ _ ls [1] i wc.drew (L2.next hBd) (Lo2.next hBd) (by omega) (by simp; omega)
      rw [hl, show val [1] = 1 from rfl] at h
      exact h
    have K2 : ∀ (W : World) (y : Value) (ys : List Nat), Below wc.heap.size wc W → Lim W.heap.size W y ys → ys.length = l + 1 → val ys = 1 → Calls Tryz.prog 112 #[.agg #[.slice (some ⟨b1, o1, none⟩) (l + 1) c1, .int .u64 (i : Int)], .slice P (l + 1) cp, y] W (Monts (l + 1) (val ps * 1) (val ls) W) := by
      intro W y ys hW hy hly hvy
      have h := times_any _ _ y ls ps ys i l W (L2.next hW) (Lp.next hW) hy hl hlp hly (by omega) hi hinv
      rw [hvy] at h
      exact h
    have K3 : ∀ (W : World) (r : Value) (rs : List Nat), Below wc.heap.size wc W → Lim W.heap.size W r rs → rs.length = l + 1 → val rs * M ^ (l + 1) % val ls = val ps * 1 % val ls → Calls Tryz.prog 89 #[r, .slice (some ⟨b1, o1, none⟩) (l + 1) c1] W (GivesOk (pm a (val es) (val ls)) W) := by
      intro W r rs hW hr hlr hvr
      have h := rest_any r _ rs ls W hr (L2.next hW) (by omega) (by omega) hm0
      rw [mont_down hodd hvp hvr] at h
      exact h
    have HK1 := Lib.hid K1
    have HK2 := Lib.hid K2
    have HK3 := Lib.hid K3
    clear K1 K2 K3
    go_upto_region 5 with fail
    go_region_held3 (fun w' => w'.cell? ⟨G, 0, none⟩ = some (.slice (some ⟨b1, o1, none⟩) (l + 1) c1) ∧ w'.cell? ⟨G, 1, none⟩ = some (.int .u64 (i : Int))) (first | exact ⟨hx2, hx3⟩ | exact ⟨hy0, hy1⟩ | exact ⟨hz0, hz1⟩ | exact ⟨hu0, hu1⟩)
      (first
        | (go_at_call 113; (with_reducible refine HK1.out.mono ?_); rintro e W4 ⟨ro, rso, rfl, Lo4, hlo, hvo, hBo⟩; have hB4 := hBd.trans hBo; have hy0 := (hB4.cell (p := ⟨G, 0, none⟩) hGp).trans hx2; have hy1 := (hB4.cell (p := ⟨G, 1, none⟩) hGp).trans hx3)
        | (go_at_call 112; (with_reducible refine (HK2.out W4 ro rso hB4 Lo4 hlo hvo).mono ?_); rintro e W5 ⟨rt, rst, rfl, Lt, hlt5, hvt, hB45⟩; have hB5 := hB4.trans (hB45.mono hB4.size); have hz0 := (hB5.cell (p := ⟨G, 0, none⟩) hGp).trans hx2; have hz1 := (hB5.cell (p := ⟨G, 1, none⟩) hGp).trans hx3)
        | (go_at_call 89; (with_reducible refine (HK3.out W5 rt rst hB5 Lt hlt5 hvt).mono ?_); rintro e W6 ⟨rr, rfl, Lr, hB56⟩; have hB6 := hB5.trans (hB56.mono hB5.size); have hu0 := (hB6.cell (p := ⟨G, 0, none⟩) hGp).trans hx2; have hu1 := (hB6.cell (p := ⟨G, 1, none⟩) hGp).trans hx3))
    all_goals
      go_wp2
      go_ret
      exact ⟨rr, rfl, Lr, hB7.trans (hB6.mono hB7.size)⟩

end Go.Proofs.YtjnefacdindamaaGreatDoor


/- modulus.Power answers what a power leaves, and true; nothing and false, of 0. Conditions: the slices read as limbs; lengths below 2^35. -/
namespace Go.Proofs.YtjnefacdindamaaGreatDoor
open Go.RowKit Go.Shelf Num
set_option linter.unusedVariables false
set_option maxRecDepth 100000

theorem Lim.boxed {w : World} {v : Value} {xs : List Nat} (h : Lim w.heap.size w v xs) (o : Obj) : Lim (w.alloc o).heap.size (w.alloc o) v xs := h.alloc o

set_option maxRecDepth 100000 in
set_option maxHeartbeats 4000000 in
theorem power_zero (va ve vm : Value) (az es ms : List Nat) (w : World) (hLa : Lim w.heap.size w va az) (hLe : Lim w.heap.size w ve es) (hLm : Lim w.heap.size w vm ms)
    (hla : az.length ≤ 34359738368) (hle : es.length ≤ 34359738368) (hlm : ms.length ≤ 34359738368) (h0 : val ms = 0) :
    Calls Tryz.prog 76 #[va, ve, vm] w (GivesNo w) := by
  have K := rest_zero va vm az ms (w.alloc (.cells #[vm] 69)) (hLa.alloc _) (hLm.alloc _) (by omega) (by omega) h0
  have HK := Lib.hid K
  clear K
  obtain ⟨A, ca, rfl, _⟩ := id hLa
  obtain ⟨B, cb, rfl, _⟩ := id hLe
  obtain ⟨C, cc, rfl, _⟩ := id hLm
  go_enter Tryz.func76, Tryz.ntmps76
  go_wp2_with fail
  refine HK.out.mono ?_
  rintro e W1 ⟨rfl, hB⟩
  go_wp2
  go_ret2
  exact ⟨rfl, ((Below.refl _ w).alloc (Nat.le_refl _) _).trans (hB.mono (by simp))⟩

theorem limbs_one : limbs 1 = [1] := limbs_of 1 [1] rfl (by decide +kernel) (by decide +kernel)
theorem two_le {m : Nat} (h0 : m ≠ 0) (he : m % 2 = 0) : 2 ≤ m := by omega
theorem bit_zero (n : Nat) : bitN n 0 = n % 2 := by unfold bitN; rw [Nat.pow_zero, Nat.div_one]

set_option maxRecDepth 100000 in
set_option maxHeartbeats 4000000 in
theorem power_any (va ve vm : Value) (az es ms : List Nat) (w : World) (hLa : Lim w.heap.size w va az) (hLe : Lim w.heap.size w ve es) (hLm : Lim w.heap.size w vm ms)
    (hla : az.length ≤ 34359738368) (hle : es.length ≤ 34359738368) (hlm : ms.length ≤ 34359738368) (h0 : val ms ≠ 0) :
    Calls Tryz.prog 76 #[va, ve, vm] w (GivesOk (pm (val az) (val es) (val ms)) w) := by
  have K := rest_any va vm az ms (w.alloc (.cells #[vm] 69)) (hLa.alloc _) (hLm.alloc _) (by omega) (by omega) h0
  have HK := Lib.hid K
  clear K
  have hrl := rem_len (a := val az) hLm.ok h0
  have hom := hLm.ok
  have hbox : (w.alloc (.cells #[vm] 69)).cell? ⟨w.heap.size, 0, none⟩ = some vm := by simp
  obtain ⟨A, ca, rfl, _⟩ := id hLa
  obtain ⟨B, cb, rfl, _⟩ := id hLe
  obtain ⟨C, cc, rfl, _⟩ := id hLm
  go_enter Tryz.func76, Tryz.ntmps76
  go_wp2_with fail
  refine HK.out.mono ?_
  rintro e W1 ⟨rb, rfl, Lb, hB1⟩
  have hbox1 : W1.cell? ⟨w.heap.size, 0, none⟩ = some (.slice C ms.length cc) := (hB1.cell (p := ⟨w.heap.size, 0, none⟩) (by simp)).trans hbox
  have hBw : Below w.heap.size w W1 := ((Below.refl _ w).alloc (Nat.le_refl _) _).trans (hB1.mono (by simp))
  have Lm1 := hLm.next hBw
  have Le1 := hLe.next hBw
  have hG1 := lt_of_cell hbox1
  clear hbox hB1 HK hLa
  have K2 := bit_any W1.heap.size _ ms 0 W1 Lm1 (by omega)
  rw [bit_zero] at K2
  rcases (show val ms % 2 = 1 ∨ val ms % 2 = 0 by omega) with hodd | heven
  · rw [hodd] at K2
    have K3 := oddPower_any rb _ _ _ es ms (val az) W1 Lb Le1 Lm1 (by omega) hle hlm hodd (val_limbs _)
    have HK2 := Lib.hid K2
    have HK3 := Lib.hid K3
    clear K2 K3
    obtain ⟨R, cr, rfl, _⟩ := id Lb
    go_wp2_with fail
    refine HK2.out.mono ?_
    rintro e W2 ⟨rfl, rfl⟩
    go_wp2_with fail
    refine HK3.out.mono ?_
    rintro e W3 ⟨r3, rfl, L3, hB3⟩
    go_wp2
    go_ret2
    exact ⟨r3, rfl, L3, hBw.trans (hB3.mono hBw.size)⟩
  · rw [heven] at K2
    have HK2 := Lib.hid K2
    clear K2
    have hm2 : 2 ≤ val ms := two_le h0 heven
    have hB2 : Below w.heap.size w (W1.alloc (.cells #[.int .u64 1] 74)) := hBw.alloc hBw.size _
    have Lo := lim_lit1 W1 1 (small_ok (by omega))
    have Lb2 := Lb.alloc (.cells #[.int .u64 1] 74)
    have Le2 := Le1.alloc (.cells #[.int .u64 1] 74)
    have Lm2 := Lm1.alloc (.cells #[.int .u64 1] 74)
    have hbox2 : (W1.alloc (.cells #[.int .u64 1] 74)).cell? ⟨w.heap.size, 0, none⟩ = some (.slice C ms.length cc) := by
      rw [((Below.refl W1.heap.size W1).alloc (Nat.le_refl _) _).cell (p := ⟨w.heap.size, 0, none⟩) hG1]
      exact hbox1
    have hG2 : w.heap.size < (W1.alloc (.cells #[.int .u64 1] 74)).heap.size := by simp only [World.size_alloc]; omega
    have hlen : ∀ k, (limbs (pm (val az) k (val ms))).length ≤ ms.length := fun k => limbs_len (Nat.lt_trans (pm_lt _ _ (by omega)) (val_lt hom))
    have K3 := raise_closure (fun k xs => xs = limbs (pm (val az) k (val ms))) w.heap.size _ rb _ [1] _ es (W1.alloc (.cells #[.int .u64 1] 74)) Lo Lb2 Le2 (by omega)
      (by show [1] = _; rw [pm_zero, Nat.mod_eq_of_lt (by omega), limbs_one]) (by show _ = _; rw [pm_one])
      (by
        rintro W x y xs ys k l hW hx hy rfl rfl
        have hbx := (hW.cell (p := ⟨w.heap.size, 0, none⟩) hG2).trans hbox2
        have h := closure_any w.heap.size _ x y ms _ _ W hbx (Lm2.next hW) hx hy (by omega) (by have := hlen k; omega) (by have := hlen l; omega) h0
        rw [val_limbs, val_limbs, ← pm_add] at h
        refine h.mono ?_
        rintro e W' ⟨r, rfl, Lr, hBr⟩
        exact ⟨r, _, rfl, Lr, rfl, hBr⟩)
    have HK3 := Lib.hid K3
    clear K3
    obtain ⟨R, cr, rfl, _⟩ := id Lb
    have hmf : ∀ (fn : Fn) (first cap : Array Value) (w : World), (Instr.makeFunc fn first cap).run Tryz.prog w = .ok (.func fn first cap) w := fun _ _ _ _ => rfl
    go_wp2_with fail
    refine HK2.out.mono ?_
    rintro e W2 ⟨rfl, rfl⟩
    go_wp2_with fail
    refine HK3.out.mono ?_
    rintro e W3 ⟨r3, rs3, rfl, L3, rfl, hB3⟩
    go_wp2
    go_ret2
    exact ⟨r3, rfl, L3, hB2.trans (hB3.mono hB2.size)⟩

end Go.Proofs.YtjnefacdindamaaGreatDoor
