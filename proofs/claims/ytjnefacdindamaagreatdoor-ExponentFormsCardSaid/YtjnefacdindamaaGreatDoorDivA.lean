/- Several texts in one: each part says what it proves, and under which conditions. -/
import Derived.Test.YtjnefacdindamaaGreatDoorMulA
import Derived.Test.YtjnefacdindamaaGreatDoorNat
import Derived.Laws.Bits64b
import Derived.Test.YtjnefacdindamaaGreatDoorNumA

/- long.takeAll takes a number from limbs that lie in a row as many times as it is in them, and answers how many times. Conditions: the number's highest bit is set; the limbs are less than it with a nought below; it lies elsewhere. -/
namespace Go.Proofs.YtjnefacdindamaaGreatDoor
open Go.RowKit Go.Shelf Num
set_option linter.unusedVariables false
set_option maxRecDepth 100000

/-- The two highest limbs' guess is no less than the digit. -/
theorem guess_row {f : Nat → Nat} {o m : Nat} {bs : List Nat} (hf : ∀ j, f j < M) (hm : bs.length = m + 1) (ht : 0 < lat bs m) : sm f o (m + 2) / val bs ≤ (f (o + (m + 1)) * M + f (o + m)) / lat bs m := by
  have hP : 0 < M ^ m := Nat.pow_pos M_pos
  refine guess_ge (P := M ^ m) hP ht ?_ ?_
  · have h1 := sm_lt hf o m
    rw [sm_succ, sm_succ, Nat.pow_succ, Nat.add_mul, Nat.add_mul]
    have e1 : f (o + (m + 1)) * M * M ^ m = M ^ m * M * f (o + (m + 1)) := by rw [Nat.mul_assoc, Nat.mul_comm]; rw [Nat.mul_comm M]
    have e2 : f (o + m) * M ^ m = M ^ m * f (o + m) := Nat.mul_comm _ _
    rw [e1, e2]
    omega
  · rw [val_sm, hm, sm_succ, Nat.zero_add, Nat.mul_comm]
    omega

theorem bool_no {a b P : Nat} (h : a = b + P * false.toNat) : a = b := by simpa using h
theorem bool_yes {a b P : Nat} (h : a = b + P * true.toNat) : a = b + P := by simpa using h
theorem bool_not {a b P : Nat} (c : Bool) (h : a = b + P * (1 - c.toNat)) : a = b + P * (!c).toNat := by cases c <;> simpa using h

set_option maxRecDepth 100000 in
set_option maxHeartbeats 4000000 in
theorem takeAll_any (g n o cap m : Nat) (f : Nat → Nat) (vb : Value) (bs : List Nat) (w : World) (hR : Row w g n f) (hb : Off g w vb bs) (hm : bs.length = m + 1) (ho : o + (m + 2) ≤ n) (hcap : m + 2 ≤ cap) (ht : 9223372036854775808 ≤ lat bs m)
    (hlt : sm f o (m + 2) < M * val bs) (hlb : bs.length ≤ 1099511627776) (hn : n ≤ 4398046511104) :
    Calls Tryz.prog 123 #[.slice (some ⟨g, o, none⟩) (m + 2) cap, vb] w fun e w' => ∃ (f' : Nat → Nat), e = .returned (.int .u64 ((sm f o (m + 2) / val bs : Nat) : Int)) ∧ Row w' g n f' ∧ Only g w w' ∧
      (∀ j, (j < o ∨ o + (m + 2) ≤ j) → f' j = f j) ∧ sm f' o (m + 2) = sm f o (m + 2) % val bs := by
  have hob := hb.ok
  have hD : 0 < val bs := by
    rcases Nat.eq_zero_or_pos (val bs) with h | h
    · rw [h] at hlt; simp at hlt
    · exact h
  have hgu := guess_row hR.1 hm (by omega) (o := o)
  have hq : sm f o (m + 2) / val bs < M := (Nat.div_lt_iff_lt_mul hD).2 hlt
  have hge := guessN_ge hq hgu
  have hgl := guessN_lt (h := f (o + (m + 1))) (d := lat bs m) (hR.1 (o + m))
  have hgc := fun w' : World => guess_any (f (o + (m + 1))) (f (o + m)) (lat bs m) w' (hR.1 _) (hR.1 _) (ok_get hob m) ht
  have HG := Lib.hid hgc
  clear hgc
  obtain ⟨t0, ht0⟩ : ∃ t, t = guessN (f (o + (m + 1))) (f (o + m)) (lat bs m) := ⟨_, rfl⟩
  rw [← ht0] at hge hgl HG
  obtain ⟨A, cb, rfl, hcb, _, hr⟩ := id hb
  obtain ⟨b, off, rfl, hbg, hcell⟩ := hr (by omega)
  have hc3 := hcell m (by omega)
  have hc1 := hR.cell (j := o + (m + 1)) (by omega)
  have hc2 := hR.cell (j := o + m) (by omega)
  rw [hm] at hcb ⊢
  clear hcell hr ht0 hgu
  have hb' : Off g w (.slice (some ⟨b, off, none⟩) (m + 1) cb) bs := by rw [← hm]; exact hb
  have e2 : bs.length + 1 = m + 2 := by omega
  have e3 : o + bs.length + 1 = o + (m + 2) := by omega
  clear hb
  generalize hqq : sm f o (m + 2) / val bs = q at *
  have HQ := Lib.hid hqq
  clear hqq hlt
  have i1 : ((m : Int) + 1) < ((m : Int) + 2) := by omega
  have i2 : (m : Int) < ((m : Int) + 2) := by omega
  have i3 : (m : Int) < ((m : Int) + 1) := by omega
  go_enter Tryz.func123, Tryz.ntmps123
  go_upto_region 1 with fail
  go_quiet ((go_at_call 132; refine Calls.quiet_of (HG.out _)))
  go_wp2_with fail
  refine (takeTimes_any g n o (m + 2) cap f _ bs t0 (w.drewN nq) (hR.drewN nq) (hb'.only ((Only.refl g w).drewN nq)) (by omega) ho hcap hgl hlb hn).mono ?_
  rintro e W1 ⟨bl, f1, rfl, hR1, hO1, hf1, he1⟩
  replace hO1 : Only g w W1 := ((Only.refl g w).drewN nq).trans hO1
  rw [e2] at he1
  simp only [e3] at hf1
  clear hc1 hc2 hc3 HG i1 i2 i3
  have HE1 := Lib.hid he1
  have HF1 := Lib.hid hf1
  clear he1 hf1
  go_wp2_with fail
  go_loopw [5, 6] (fun t bl wr => ∃ (T : Nat) (B : Bool) (F : Nat → Nat), t = .int .u64 (T : Int) ∧ bl = .bool B ∧ T < M ∧ q ≤ T ∧ Row wr g n F ∧ Only g w wr ∧ (∀ j, (j < o ∨ o + (m + 2) ≤ j) → F j = f j) ∧
      sm F o (m + 2) + T * val bs = sm f o (m + 2) + M ^ (m + 2) * B.toNat)
    (fun t _ _ => (intOf t).toNat)
  case atStart => exact ⟨t0, bl, f1, rfl, rfl, hgl, hge, hR1, hO1, HF1.out, HE1.out⟩
  case round =>
    obtain ⟨T, B, F, rfl, rfl, hT, hqT, hRF, hOF, hF, hE⟩ := hrel
    clear HE1 HF1 hR1 hO1
    have HF := Lib.hid hF
    clear hF
    have hS := sm_lt hRF.1 o (m + 2)
    cases B with
    | true =>
      replace hE := bool_yes hE
      have hlt : sm f o (m + 2) < T * val bs := by omega
      have hT1 : 1 ≤ T := by
        rcases Nat.eq_zero_or_pos T with h | h
        · rw [h] at hlt; simp at hlt
        · exact h
      have hq1 : q ≤ T - 1 := by rw [← HQ.out]; exact more_than hD hlt
      have HE := Lib.hid hE
      have HS := Lib.hid hS
      unfold M at hT
      clear hE hS hlt
      go_wp2_with fail
      refine (putBack_any g n o (m + 2) cap F _ bs wr hRF (hb'.only hOF) (by omega) ho hcap hlb hn).mono ?_
      rintro e W2 ⟨c, f2, rfl, hR2, hO2, hf2, he2⟩
      rw [e2] at he2
      simp only [e3] at hf2
      have HE2 := Lib.hid he2
      have HF2 := Lib.hid hf2
      clear he2 hf2
      go_wp2_with fail
      go_roundw
      case rel =>
        refine ⟨T - 1, !c, f2, congrArg (Value.int .u64) (by omega), rfl, by unfold M; omega, hq1, hR2, hOF.trans hO2, fun j hj => (HF2.out j hj).trans (HF.out j hj), ?_⟩
        exact bool_not c (put_back HE.out HS.out HE2.out (by cases c <;> simp)).2.2
      case measure => simp [intOf]; omega
    | false =>
      have HE := Lib.hid hE
      clear hE hS
      go_wp2
      go_ret
      have h : sm F o (m + 2) + T * val bs = sm f o (m + 2) := bool_no HE.out
      obtain ⟨h1, h2⟩ := all_taken hD h (by rw [HQ.out]; exact hqT)
      rw [HQ.out] at h1
      subst h1
      exact ⟨F, rfl, hRF, hOF, HF.out, h2⟩

end Go.Proofs.YtjnefacdindamaaGreatDoor


/- long.shiftUp and long.shiftDown: a number times 2 to a power below 64, and a number by it. Conditions: the slice reads as limbs; lengths below 2^40. -/
namespace Go.Proofs.YtjnefacdindamaaGreatDoor
open Go.RowKit Go.Shelf Num
set_option linter.unusedVariables false
set_option maxRecDepth 100000

theorem pow_split {s : Nat} (hs : s < 64) : 2 ^ s * 2 ^ (64 - s) = M := by
  rw [← Nat.pow_add, M_two]
  congr 1
  omega
theorem pow_le_M {s : Nat} (hs : s < 64) : 2 ^ s ≤ M := by
  rw [M_two]
  exact Nat.pow_le_pow_right (by omega) (by omega)
theorem up_mod (x : Nat) {s : Nat} (hs : s < 64) : x * 2 ^ s % M = 2 ^ s * (x % 2 ^ (64 - s)) := by
  rw [← pow_split hs, Nat.mul_comm x, Nat.mul_mod_mul_left]
theorem or_lowS {c y s : Nat} (hc : c < 2 ^ s) : c ||| 2 ^ s * y = c + 2 ^ s * y := by
  rw [Nat.or_comm, ← Nat.two_pow_add_eq_or_of_lt hc, Nat.add_comm]
theorem wrap_shl (x s : Nat) : IntKind.u64.wrap ((x : Int) * 2 ^ s) = ((x * 2 ^ s % M : Nat) : Int) := by
  have e : (x : Int) * 2 ^ s = ((x * 2 ^ s : Nat) : Int) := by rw [Int.natCast_mul, Int.natCast_pow]; rfl
  rw [e, IntKind.wrap_u64]
  unfold M
  omega
theorem shr_nat (x t : Nat) : (x : Int) / 2 ^ t = ((x / 2 ^ t : Nat) : Int) := by rw [Int.natCast_ediv, Int.natCast_pow]; rfl
theorem or_up {c x s : Nat} (hc : c < 2 ^ s) (hcM : c < M) (hs : s < 64) : bits BinOp.or IntKind.u64 (c : Int) (IntKind.u64.wrap ((x : Int) * 2 ^ s)) = ((c + 2 ^ s * (x % 2 ^ (64 - s)) : Nat) : Int) := by
  have h1 : x * 2 ^ s % M < 18446744073709551616 := Nat.mod_lt _ M_pos
  rw [wrap_shl, bits_or_u64_nat _ _ hcM h1, up_mod x hs, or_lowS hc]
/-- What is laid with a limb that is shifted up. -/
theorem up_step {c x s : Nat} (hc : c < 2 ^ s) (hx : x < M) (hs : s < 64) : c + 2 ^ s * (x % 2 ^ (64 - s)) < M ∧ x / 2 ^ (64 - s) < 2 ^ s ∧ c + 2 ^ s * (x % 2 ^ (64 - s)) + M * (x / 2 ^ (64 - s)) = c + 2 ^ s * x := by
  have hp := pow_split hs
  have h1 := Nat.mod_lt x (Nat.two_pow_pos (64 - s))
  have h2 := Nat.mod_add_div x (2 ^ (64 - s))
  refine ⟨?_, ?_, ?_⟩
  · have h3 : 2 ^ s * (x % 2 ^ (64 - s) + 1) ≤ 2 ^ s * 2 ^ (64 - s) := Nat.mul_le_mul_left _ h1
    rw [hp, Nat.mul_add] at h3
    omega
  · exact Nat.div_lt_of_lt_mul (by rw [Nat.mul_comm, hp]; exact hx)
  · rw [← hp, Nat.mul_assoc, Nat.add_assoc, ← Nat.mul_add, h2]
theorem up_round {f : Nat → Nat} {k s v c' x X : Nat} (h : sm f 0 (k + 1) = 2 ^ s * X) (e : v + M * c' = f k + 2 ^ s * x) : sm (upd (upd f k v) (k + 1) c') 0 (k + 1 + 1) = 2 ^ s * (X + M ^ k * x) := by
  have e1 := sm_upd_last (upd f k v) 0 (k + 1) c'
  rw [Nat.zero_add] at e1
  have e2 := sm_upd_last f 0 k v
  rw [Nat.zero_add] at e2
  rw [sm_succ, Nat.zero_add] at h
  rw [e1, e2, Nat.mul_add, ← h, Nat.pow_succ, Nat.mul_assoc, Nat.add_assoc, ← Nat.mul_add, e, Nat.mul_add, Nat.mul_left_comm (2 ^ s), Nat.add_assoc]

set_option maxRecDepth 100000 in
set_option maxHeartbeats 4000000 in
theorem shiftUp_any (v : Value) (xs : List Nat) (s : Nat) (w : World) (hL : Lim w.heap.size w v xs) (hlx : xs.length ≤ 549755813888) (hs : s < 64) :
    Calls Tryz.prog 122 #[v, .int .i64 (s : Int)] w fun e w' => ∃ f : Nat → Nat, e = .returned (.slice (some ⟨w.heap.size, 0, none⟩) (xs.length + 1) (xs.length + 1)) ∧ Row w' w.heap.size (xs.length + 1) f ∧ Below w.heap.size w w' ∧
      sm f 0 (xs.length + 1) = 2 ^ s * val xs := by
  obtain ⟨i0, hi, hz0, hz1, hz2⟩ := info_parts infoU
  have hox := hL.ok
  obtain ⟨A, ca, rfl, hca, hna, _, hra⟩ := id hL
  go_enter Tryz.func122, Tryz.ntmps122
  go_wp2_with (refine wpList_make_row _ rfl _ _ 69 rfl 74 i0 (.int .u64 0) Tryz.underlying69 hi hz0 hz1 rfl .i64 .i64 (xs.length + 1) rfl rfl (by rw [hz2]; omega) (by omega) ?_)
  have hR0 := row_made w (xs.length + 1)
  have hB0 : Below w.heap.size w (w.alloc (.cells (madeCells #[.int .u64 0] (xs.length + 1)) 74)) := (Below.refl _ w).alloc (Nat.le_refl _) _
  generalize w.alloc (.cells (madeCells #[.int .u64 0] (xs.length + 1)) 74) = w1 at hR0 hB0 ⊢
  go_loopw [14] (fun i wr => ∃ (k : Nat) (f : Nat → Nat), k ≤ xs.length ∧ i = .int .i64 k ∧ Row wr w.heap.size (xs.length + 1) f ∧ Below w.heap.size w wr ∧
      f k < 2 ^ s ∧ sm f 0 (k + 1) = 2 ^ s * sm (lat xs) 0 k)
    (fun i _ => xs.length - (intOf i).toNat)
  case atStart => exact ⟨0, fun _ => 0, Nat.zero_le _, rfl, hR0, hB0, Nat.two_pow_pos _, by simp [sm]⟩
  case round =>
    obtain ⟨k, f, hk, rfl, hR, hB, hz, he⟩ := hrel
    have HE := Lib.hid he
    have HZ := Lib.hid hz
    clear he hz
    by_cases hlt : k < xs.length
    · obtain ⟨b, off, rfl, hbg, hcell⟩ := hra (by omega)
      have hck : wr.cell? ⟨b, off + k, none⟩ = some (.int .u64 ((lat xs k : Nat) : Int)) := (hB.cell (p := ⟨b, off + k, none⟩) hbg).trans (hcell k hlt)
      clear hcell hra
      have hd : decide (k < xs.length) = true := by simpa using hlt
      have hx := ok_get hox k
      have hcs := hR.cell (j := k) (by omega)
      have hfz := hR.frozen k
      have hi1 : k < xs.length + 1 := by omega
      have hi2 : (k : Int) < (xs.length : Int) + 1 := by omega
      have hor := or_up (x := lat xs k) HZ.out (hR.1 k) hs
      obtain ⟨s1, s2, s3⟩ := up_step HZ.out hx hs
      have hsr := shr_nat (lat xs k) (64 - s)
      generalize f k + 2 ^ s * (lat xs k % 2 ^ (64 - s)) = v at *
      generalize lat xs k / 2 ^ (64 - s) = c' at *
      have HS3 := Lib.hid s3
      have HS2 := Lib.hid s2
      clear s3 s2
      go_wp2_with fail
      go_region
      clear hor hcs hfz hck
      have hR1 : Row (wr.setCell ⟨w.heap.size, k, none⟩ (.int .u64 (v : Int))).drew w.heap.size (xs.length + 1) (upd f k v) := hR.set k s1
      have hB1 : Below w.heap.size w (wr.setCell ⟨w.heap.size, k, none⟩ (.int .u64 (v : Int))).drew := (hB.setCell (p := ⟨w.heap.size, k, none⟩) (Nat.le_refl _) _).drew
      generalize (wr.setCell ⟨w.heap.size, k, none⟩ (.int .u64 (v : Int))).drew = W2 at *
      have hcs := hR1.cell (j := k + 1) (by omega)
      have hfz := hR1.frozen (k + 1)
      have hi1 : k + 1 < xs.length + 1 := by omega
      have hi2 : (k : Int) + 1 < (xs.length : Int) + 1 := by omega
      go_wp2_with fail
      go_roundw
      case rel =>
        refine ⟨k + 1, upd (upd f k v) (k + 1) c', by omega, by go_num, hR1.set _ (Nat.lt_of_lt_of_le HS2.out (pow_le_M hs)), hB1.setCell (p := ⟨w.heap.size, k + 1, none⟩) (Nat.le_refl _) _, by rw [upd_same]; exact HS2.out, ?_⟩
        rw [sm_succ (lat xs) 0 k, Nat.zero_add]
        exact up_round HE.out HS3.out
      case measure => simp [intOf]; omega
    · obtain rfl : k = xs.length := by omega
      have hd : decide (xs.length < xs.length) = false := by simp
      go_wp2
      go_ret
      exact ⟨f, rfl, hR, hB, by rw [val_sm]; exact HE.out⟩

theorem or_down {a x s : Nat} (ha : a < 2 ^ (64 - s)) (haM : a < M) (hs : s < 64) : bits BinOp.or IntKind.u64 (a : Int) (IntKind.u64.wrap ((x : Int) * 2 ^ (64 - s))) = ((a + 2 ^ (64 - s) * (x % 2 ^ s) : Nat) : Int) := by
  have h1 : x * 2 ^ (64 - s) % M < 18446744073709551616 := Nat.mod_lt _ M_pos
  rw [wrap_shl, bits_or_u64_nat _ _ haM h1]
  have e : x * 2 ^ (64 - s) % M = 2 ^ (64 - s) * (x % 2 ^ s) := by rw [← pow_split hs, Nat.mul_comm x, Nat.mul_comm (2 ^ s), Nat.mul_mod_mul_left]
  rw [e, or_lowS ha]
theorem down_step {y x s : Nat} (hy : y < M) (hs : s < 64) : y / 2 ^ s < 2 ^ (64 - s) ∧ y / 2 ^ s < M ∧ y / 2 ^ s + 2 ^ (64 - s) * (x % 2 ^ s) < M ∧ 2 ^ (64 - s) * (x % 2 ^ s) + M * (x / 2 ^ s) = 2 ^ (64 - s) * x := by
  have hp := pow_split hs
  have h1 := Nat.mod_lt x (Nat.two_pow_pos s)
  have h2 := Nat.mod_add_div x (2 ^ s)
  have h0 : y / 2 ^ s < 2 ^ (64 - s) := Nat.div_lt_of_lt_mul (by rw [hp]; exact hy)
  refine ⟨h0, Nat.lt_of_le_of_lt (Nat.div_le_self _ _) hy, ?_, ?_⟩
  · have h3 : 2 ^ (64 - s) * (x % 2 ^ s + 1) ≤ 2 ^ (64 - s) * 2 ^ s := Nat.mul_le_mul_left _ h1
    rw [Nat.mul_comm (2 ^ (64 - s)) (2 ^ s), hp, Nat.mul_add] at h3
    omega
  · rw [← hp, Nat.mul_comm (2 ^ s), Nat.mul_assoc, ← Nat.mul_add, h2]
theorem down_round {f : Nat → Nat} {j s v b x A : Nat} (hs : s < 64) (h : sm f 0 (j + 1) = A / 2 ^ s) (e : v + M * b = f j + 2 ^ (64 - s) * x) : sm (upd (upd f (j + 1) b) j v) 0 (j + 1 + 1) = (A + M ^ (j + 1) * x) / 2 ^ s := by
  have e1 : sm (upd (upd f (j + 1) b) j v) 0 (j + 1) = sm f 0 j + M ^ j * v := by
    have := sm_upd_last (upd f (j + 1) b) 0 j v
    rw [Nat.zero_add] at this
    rw [this, sm_upd_out f b (.inr (by omega))]
  rw [sm_succ, e1, Nat.zero_add, upd_other _ _ (by omega), upd_same, Nat.pow_succ]
  rw [sm_succ, Nat.zero_add] at h
  have e2 : M ^ j * M * x = 2 ^ s * (M ^ j * (2 ^ (64 - s) * x)) := by
    rw [← pow_split hs]
    simp only [Nat.mul_assoc, Nat.mul_left_comm, Nat.mul_comm]
  rw [e2, Nat.add_mul_div_left _ _ (Nat.two_pow_pos s), ← h, Nat.mul_assoc, Nat.add_assoc, ← Nat.mul_add, e, Nat.mul_add, Nat.add_assoc]

set_option maxRecDepth 100000 in
set_option maxHeartbeats 4000000 in
theorem shiftDown_any (v : Value) (xs : List Nat) (s : Nat) (w : World) (hL : Lim w.heap.size w v xs) (hlx : xs.length ≤ 549755813888) (hs : s < 64) :
    Calls Tryz.prog 124 #[v, .int .i64 (s : Int)] w fun e w' => ∃ f : Nat → Nat, e = .returned (.slice (some ⟨w.heap.size, 0, none⟩) xs.length xs.length) ∧ Row w' w.heap.size xs.length f ∧ Below w.heap.size w w' ∧
      sm f 0 xs.length = val xs / 2 ^ s := by
  obtain ⟨i0, hi, hz0, hz1, hz2⟩ := info_parts infoU
  have hox := hL.ok
  obtain ⟨A, ca, rfl, hca, hna, _, hra⟩ := id hL
  go_enter Tryz.func124, Tryz.ntmps124
  go_wp2_with (refine wpList_make_row _ rfl _ _ 69 rfl 74 i0 (.int .u64 0) Tryz.underlying69 hi hz0 hz1 rfl .i64 .i64 xs.length rfl rfl (by rw [hz2]; omega) (by omega) ?_)
  have hR0 := row_made w xs.length
  have hB0 : Below w.heap.size w (w.alloc (.cells (madeCells #[.int .u64 0] xs.length) 74)) := (Below.refl _ w).alloc (Nat.le_refl _) _
  generalize w.alloc (.cells (madeCells #[.int .u64 0] xs.length) 74) = w1 at hR0 hB0 ⊢
  go_loopw [13] (fun i wr => ∃ (k : Nat) (f : Nat → Nat), k ≤ xs.length ∧ i = .int .i64 k ∧ Row wr w.heap.size xs.length f ∧ Below w.heap.size w wr ∧
      (∀ j, k = j + 1 → f j = lat xs j / 2 ^ s) ∧ sm f 0 k = sm (lat xs) 0 k / 2 ^ s)
    (fun i _ => xs.length - (intOf i).toNat)
  case atStart => exact ⟨0, fun _ => 0, Nat.zero_le _, rfl, hR0, hB0, fun j hj => by omega, by simp [sm]⟩
  case round =>
    obtain ⟨k, f, hk, rfl, hR, hB, hz, he⟩ := hrel
    have HE := Lib.hid he
    have HZ := Lib.hid hz
    clear he hz
    by_cases hlt : k < xs.length
    · obtain ⟨b, off, rfl, hbg, hcell⟩ := hra (by omega)
      have hck : wr.cell? ⟨b, off + k, none⟩ = some (.int .u64 ((lat xs k : Nat) : Int)) := (hB.cell (p := ⟨b, off + k, none⟩) hbg).trans (hcell k hlt)
      clear hcell hra
      have hd : decide (k < xs.length) = true := by simpa using hlt
      have hx := ok_get hox k
      have hcs := hR.cell (j := k) (by omega)
      have hfz := hR.frozen k
      have hi2 : (k : Int) < (xs.length : Int) := by omega
      have hsr := shr_nat (lat xs k) s
      by_cases hp : k = 0
      · have hq : lat xs k / 2 ^ s < M := Nat.lt_of_le_of_lt (Nat.div_le_self _ _) hx
        obtain ⟨q, hqe⟩ : ∃ q, q = lat xs k / 2 ^ s := ⟨_, rfl⟩
        rw [← hqe] at hq hsr
        have HQ := Lib.hid hqe
        have HP := Lib.hid hp
        have hg1 : decide (0 < (k : Int)) = false := by simp; omega
        have hg2 : decide (0 < k) = false := by simp; omega
        clear hqe hp
        go_wp2_with fail
        go_roundw
        case rel =>
          refine ⟨k + 1, upd f k q, by omega, by go_num, hR.set _ hq, hB.setCell (p := ⟨w.heap.size, k, none⟩) (Nat.le_refl _) _, ?_, ?_⟩
          · intro j hj
            obtain rfl : j = k := by omega
            rw [upd_same]
            exact HQ.out
          · obtain rfl := HP.out
            have e := sm_upd_last f 0 0 q
            rw [Nat.zero_add] at e
            rw [e, HQ.out]
            simp [sm]
        case measure => simp [intOf]; omega
      · obtain ⟨j, rfl⟩ : ∃ j, k = j + 1 := ⟨k - 1, by omega⟩
        have hy := ok_get hox j
        obtain ⟨s0, s1, s2, s3⟩ := down_step (x := lat xs (j + 1)) hy hs
        have hfj := HZ.out j rfl
        have hor := or_down (x := lat xs (j + 1)) s0 s1 hs
        rw [← hfj] at s0 s1 s2 hor
        have hv2 : f j + 2 ^ (64 - s) * (lat xs (j + 1) % 2 ^ s) + M * (lat xs (j + 1) / 2 ^ s) = f j + 2 ^ (64 - s) * lat xs (j + 1) := by rw [Nat.add_assoc, s3]
        clear s3
        have hq : lat xs (j + 1) / 2 ^ s < M := Nat.lt_of_le_of_lt (Nat.div_le_self _ _) hx
        obtain ⟨q, hqe⟩ : ∃ q, q = lat xs (j + 1) / 2 ^ s := ⟨_, rfl⟩
        rw [← hqe] at hq hsr hv2
        obtain ⟨v, hve⟩ : ∃ v, v = f j + 2 ^ (64 - s) * (lat xs (j + 1) % 2 ^ s) := ⟨_, rfl⟩
        rw [← hve] at s2 hor hv2
        have HQ := Lib.hid hqe
        have HV := Lib.hid hv2
        clear hqe hve hv2 hfj
        have hg1 : decide (0 < (j : Int) + 1) = true := decide_eq_true (by omega)
        go_wp2_with fail
        have hR1 : Row (wr.setCell ⟨w.heap.size, j + 1, none⟩ (.int .u64 (q : Int))) w.heap.size xs.length (upd f (j + 1) q) := hR.set (j + 1) hq
        have hB1 : Below w.heap.size w (wr.setCell ⟨w.heap.size, j + 1, none⟩ (.int .u64 (q : Int))) := hB.setCell (p := ⟨w.heap.size, j + 1, none⟩) (Nat.le_refl _) _
        clear hcs hfz hck
        generalize wr.setCell ⟨w.heap.size, j + 1, none⟩ (.int .u64 (q : Int)) = W2 at *
        have hcs := hR1.cell (j := j) (by omega)
        rw [upd_other f q (by omega)] at hcs
        have hfz := hR1.frozen j
        have hi3 : (j : Int) < (xs.length : Int) := by omega
        have hi4 : j < xs.length := by omega
        go_region
        have hR2 : Row (W2.setCell ⟨w.heap.size, j, none⟩ (.int .u64 (v : Int))).drew w.heap.size xs.length (upd (upd f (j + 1) q) j v) := hR1.set j s2
        have hB2 : Below w.heap.size w (W2.setCell ⟨w.heap.size, j, none⟩ (.int .u64 (v : Int))).drew := (hB1.setCell (p := ⟨w.heap.size, j, none⟩) (Nat.le_refl _) _).drew
        go_wp2_with fail
        go_roundw
        case rel =>
          refine ⟨j + 1 + 1, upd (upd f (j + 1) q) j v, by omega, by go_num, hR2, hB2, ?_, ?_⟩
          · intro i hi
            obtain rfl : i = j + 1 := by omega
            rw [upd_other _ _ (by omega), upd_same]
            exact HQ.out
          · rw [sm_succ (lat xs) 0 (j + 1), Nat.zero_add]
            exact down_round hs HE.out HV.out
        case measure => simp [intOf]; omega
    · obtain rfl : k = xs.length := by omega
      have hd : decide (xs.length < xs.length) = false := by simp
      go_wp2
      go_ret
      exact ⟨f, rfl, hR, hB, by rw [val_sm]; exact HE.out⟩

end Go.Proofs.YtjnefacdindamaaGreatDoor


/- long.Divide answers the quotient and what is left; nothing and false, by 0. Conditions: both slices read as limbs; lengths below 2^39. -/
namespace Go.Proofs.YtjnefacdindamaaGreatDoor
open Go.RowKit Go.Shelf Num
set_option linter.unusedVariables false
set_option maxRecDepth 100000

theorem nbits_ge {b : Nat} (h : b ≠ 0) : 1 ≤ nbits b ∧ 2 ^ (nbits b - 1) ≤ b := by
  have h1 : 1 ≤ nbits b := by
    rcases Nat.eq_zero_or_pos (nbits b) with h2 | h2
    · have h3 : b < 2 ^ 0 := nbits_le.1 (by omega)
      rw [Nat.pow_zero] at h3
      omega
    · exact h2
  refine ⟨h1, ?_⟩
  rcases Nat.lt_or_ge b (2 ^ (nbits b - 1)) with h2 | h2
  · have := nbits_le.2 h2
    omega
  · exact h2

/-- Of a number that is not 0: its limbs, the highest one, how many bits that has. -/
theorem limbs_top {b : Nat} (h : b ≠ 0) : ∃ m, (limbs b).length = m + 1 ∧ lat (limbs b) m ≠ 0 ∧ nbits b = 64 * m + nbits (lat (limbs b) m) ∧ M ^ m ≤ b := by
  have hl : (limbs b).length ≠ 0 := by
    intro h0
    have := List.eq_nil_of_length_eq_zero h0
    have h1 := val_limbs b
    rw [this] at h1
    exact h h1.symm
  obtain ⟨m, hm⟩ : ∃ m, (limbs b).length = m + 1 := ⟨(limbs b).length - 1, by omega⟩
  obtain ⟨e1, e2, _⟩ := nbits_limbs (limbs b) (ok_limbs b) m (by unfold hgt; rw [trim_limbs]; exact hm)
  rw [val_limbs] at e1
  refine ⟨m, hm, e2, e1, ?_⟩
  obtain ⟨h1, h2⟩ := nbits_ge h
  obtain ⟨h3, _⟩ := nbits_ge e2
  refine Nat.le_trans ?_ h2
  rw [← two_pow_M]
  exact Nat.pow_le_pow_right (by omega) (by omega)

theorem limbs_lt (a : Nat) : a < M ^ (limbs a).length := by
  have := val_lt (ok_limbs a)
  rwa [val_limbs] at this

theorem limbs_len_val {xs : List Nat} (h : Ok xs) : (limbs (val xs)).length ≤ xs.length := limbs_len (val_lt h)

set_option maxRecDepth 100000 in
set_option maxHeartbeats 4000000 in
theorem divide_zero (v u : Value) (xs ys : List Nat) (w : World) (hLa : Lim w.heap.size w v xs) (hLb : Lim w.heap.size w u ys) (hlx : xs.length ≤ 274877906944) (hly : ys.length ≤ 274877906944) (h0 : val ys = 0) :
    Calls Tryz.prog 107 #[v, u] w fun e W' => e = .returned (.tuple #[.slice none 0 0, .slice none 0 0, .bool false]) ∧ Below w.heap.size w W' := by
  obtain ⟨A, ca, rfl, _⟩ := id hLa
  obtain ⟨B, cb, rfl, _⟩ := id hLb
  go_enter Tryz.func107, Tryz.ntmps107
  go_wp2_with fail
  refine (trim_any _ xs _ hLa (by omega)).mono ?_
  rintro e W1 ⟨r1, rfl, hL1, hB1⟩
  go_wp2_with fail
  refine (trim_any _ ys _ (hLb.next hB1) (by omega)).mono ?_
  rintro e W2 ⟨r2, rfl, hL2, hB2⟩
  rw [h0, limbs_zero] at hL2
  obtain ⟨A2, c2, rfl, _⟩ := hL2
  go_wp2
  go_ret3
  exact ⟨rfl, hB1.trans (hB2.mono hB1.size)⟩

set_option maxRecDepth 100000 in
set_option maxHeartbeats 4000000 in
theorem divide_less (v u : Value) (xs ys : List Nat) (w : World) (hLa : Lim w.heap.size w v xs) (hLb : Lim w.heap.size w u ys) (hlx : xs.length ≤ 274877906944) (hly : ys.length ≤ 274877906944) (h0 : val xs < val ys) :
    Calls Tryz.prog 107 #[v, u] w fun e W' => ∃ vr, e = .returned (.tuple #[.slice none 0 0, vr, .bool true]) ∧ Lim W'.heap.size W' vr (limbs (val xs)) ∧ Below w.heap.size w W' := by
  obtain ⟨m, hm, _, _, _⟩ := limbs_top (b := val ys) (by omega)
  have hl1 := limbs_len_val hLa.ok
  have hl2 := limbs_len_val hLb.ok
  obtain ⟨A, ca, rfl, _⟩ := id hLa
  obtain ⟨B, cb, rfl, _⟩ := id hLb
  go_enter Tryz.func107, Tryz.ntmps107
  go_wp2_with fail
  refine (trim_any _ xs _ hLa (by omega)).mono ?_
  rintro e W1 ⟨r1, rfl, hL1, hB1⟩
  go_wp2_with fail
  refine (trim_any _ ys _ (hLb.next hB1) (by omega)).mono ?_
  rintro e W2 ⟨r2, rfl, hL2, hB2⟩
  replace hL1 := hL1.next hB2
  have hcmp := compare_any r1 r2 _ _ _ hL1 hL2 (by omega) (by omega)
  rw [val_limbs, val_limbs, cmpN_lt h0] at hcmp
  have HC := Lib.hid hcmp
  clear hcmp
  obtain ⟨A2, c2, rfl, _⟩ := id hL2
  obtain ⟨A1, c1, rfl, _⟩ := id hL1
  rw [hm] at HC ⊢
  have hd : (((m : Int) + 1) == 0) = false := by simp; omega
  go_wp2_with fail
  refine HC.out.mono ?_
  rintro e W3 ⟨rfl, hB3⟩
  go_wp2
  go_ret3
  exact ⟨_, rfl, hL1.next hB3, (hB1.trans (hB2.mono hB1.size)).trans (hB3.mono (Nat.le_trans hB1.size hB2.size))⟩

end Go.Proofs.YtjnefacdindamaaGreatDoor


/- long.Divide where the number is no less than what it is divided by, which is not 0. Conditions: both slices read as limbs; lengths below 2^38. -/
namespace Go.Proofs.YtjnefacdindamaaGreatDoor
open Go.RowKit Go.Shelf Num
set_option linter.unusedVariables false
set_option maxRecDepth 100000

theorem start0 {X N D P Z : Nat} (h : X = N) (hz : Z = 0) : X + D * P * Z = N := by
  subst hz
  simpa using h

set_option maxRecDepth 100000 in
set_option maxHeartbeats 8000000 in
theorem divide_main (v u : Value) (xs ys : List Nat) (w : World) (hLa : Lim w.heap.size w v xs) (hLb : Lim w.heap.size w u ys) (hlx : xs.length ≤ 274877906944) (hly : ys.length ≤ 274877906944) (h0 : val ys ≠ 0) (hge : val ys ≤ val xs) :
    Calls Tryz.prog 107 #[v, u] w fun e W' => ∃ vq vr, e = .returned (.tuple #[vq, vr, .bool true]) ∧ Lim W'.heap.size W' vq (limbs (val xs / val ys)) ∧ Lim W'.heap.size W' vr (limbs (val xs % val ys)) ∧ Below w.heap.size w W' := by
  obtain ⟨i0, hi, hz0, hz1, hz2⟩ := info_parts infoU
  obtain ⟨m, hm, htop, hnb, hMm⟩ := limbs_top (b := val ys) h0
  have hl1 := limbs_len_val hLa.ok
  have hl2 := limbs_len_val hLb.ok
  have hlt := limbs_lt (val xs)
  obtain ⟨A, ca, rfl, _⟩ := id hLa
  obtain ⟨B, cb, rfl, _⟩ := id hLb
  go_enter Tryz.func107, Tryz.ntmps107
  go_wp2_with fail
  refine (trim_any _ xs _ hLa (by omega)).mono ?_
  rintro e W1 ⟨r1, rfl, hL1, hB1⟩
  go_wp2_with fail
  refine (trim_any _ ys _ (hLb.next hB1) (by omega)).mono ?_
  rintro e W2 ⟨r2, rfl, hL2, hB2⟩
  replace hL1 := hL1.next hB2
  have hcmp := compare_any r1 r2 _ _ _ hL1 hL2 (by omega) (by omega)
  rw [val_limbs, val_limbs] at hcmp
  have hc0 : decide (cmpN (val xs) (val ys) < 0) = false := by
    rcases Nat.lt_or_ge (val ys) (val xs) with h | h
    · rw [cmpN_gt h]; rfl
    · rw [show val xs = val ys by omega, cmpN_eq]; rfl
  have HC := Lib.hid hcmp
  clear hcmp
  have hB12 := hB1.trans (hB2.mono hB1.size)
  clear hB1 hB2 hLa hLb
  have hnl : nbits (lat (limbs (val ys)) m) ≤ 64 := nbits_lim (ok_get (ok_limbs _) m)
  obtain ⟨hnb1, _⟩ := nbits_ge htop
  obtain ⟨_, hlo⟩ := nbits_ge h0
  have hhi : val ys < 2 ^ nbits (val ys) := nbits_le.1 (Nat.le_refl _)
  rw [hnb] at hlo hhi
  have hzer := fun w' : World => zeros_any (lat (limbs (val ys)) m) w' (ok_get (ok_limbs _) m)
  have hvy := val_limbs (val ys)
  have hvx := val_limbs (val xs)
  generalize hds : limbs (val ys) = ds at *
  generalize hns : limbs (val xs) = ns at *
  obtain ⟨s, hs, hs64⟩ : ∃ s, s + nbits (lat ds m) = 64 ∧ s < 64 := ⟨64 - nbits (lat ds m), by omega, by omega⟩
  rw [show 64 - nbits (lat ds m) = s by omega] at hzer
  have HZ := Lib.hid hzer
  clear hzer
  obtain ⟨b2, o2, c2, rfl, hc2, hb2, hcell2⟩ := hL2.at_ (by omega)
  obtain ⟨A1, c1, rfl, _⟩ := id hL1
  have hck2 := hcell2 m (by omega)
  clear hcell2
  have hmn : m < ns.length := by
    rcases Nat.lt_or_ge m ns.length with h | h
    · exact h
    · have h1 : M ^ ns.length ≤ M ^ m := Nat.pow_le_pow_right M_pos h
      omega
  obtain ⟨t, ht⟩ : ∃ t, t + m = ns.length := ⟨ns.length - m, by omega⟩
  have HNB := Lib.hid (And.intro hlo (And.intro hhi (And.intro hMm hlt)))
  clear hlo hhi hMm hlt hnb hge h0 htop
  rw [hm] at HC hc2 ⊢
  have hd : (((m : Int) + 1) == 0) = false := by simp; omega
  have hi1 : (m : Int) < (m : Int) + 1 := by omega
  go_wp2_with fail
  refine HC.out.mono ?_
  rintro e W3 ⟨rfl, hB3⟩
  have hck3 := (hB3.cell (p := ⟨b2, o2 + m, none⟩) hb2).trans hck2
  go_wp2_with fail
  refine (HZ.out _).mono ?_
  rintro e W3' ⟨rfl, rfl⟩
  replace hL1 := hL1.next hB3
  replace hL2 := hL2.next hB3
  have hB := hB12.trans (hB3.mono hB12.size)
  clear hB3 hB12 hck3 hck2 hc0 hd hi1 HC HZ
  go_upto_region 7 with fail
  go_cut [10, 11] (fun s10 s11 wx => ∃ (f h : Nat → Nat) (g1 g2 : Nat), s10 = .slice (some ⟨g1, 0, none⟩) (ns.length + 1) (ns.length + 1) ∧ s11 = .slice (some ⟨g2, 0, none⟩) (m + 1) (m + 1 + 1) ∧ Row wx g1 (ns.length + 1) f ∧ Row wx g2 (m + 1 + 1) h ∧ g1 < g2 ∧ w.heap.size ≤ g1 ∧
      sm f 0 (ns.length + 1) = 2 ^ s * val xs ∧ sm h 0 (m + 1 + 1) = 2 ^ s * val ys ∧ Below w.heap.size w wx)
  case first =>
    have K1 := fun (W : World) (hW : Below W3.heap.size W3 W) => shiftUp_any _ ns s W (hL1.next hW) (by omega) hs64
    have K2 := fun (W : World) (hW : Below W3.heap.size W3 W) => shiftUp_any _ ds s W (hL2.next hW) (by omega) hs64
    rw [hm] at K2
    have j1 : (m : Int) + 1 ≤ (m : Int) + 1 + 1 := by omega
    have j2 : m + 1 ≤ m + 1 + 1 := by omega
    go_region_with (first
      | (go_at_call 122; refine (K2 _ ((Below.refl W3.heap.size W3).drew.trans hBf)).mono ?_; rintro e W5 ⟨h, rfl, hRh, hBh, hsh⟩)
      | (go_at_call 122; refine (K1 W3.drew (Below.refl _ _).drew).mono ?_; rintro e W4 ⟨f, rfl, hRf, hBf, hsf⟩))
    go_wp2_with fail
    go_meet
    have hg := hRf.lt
    have z1 : W3.heap.size ≤ W4.heap.size := hBf.size
    exact ⟨f, h, W3.heap.size, W4.heap.size, rfl, rfl, hRf.below hBh hg, hRh, hg, hB.size, by rw [← hvx]; exact hsf, by rw [← hvy]; exact hsh, (hB.drew.trans (hBf.mono hB.size)).trans (hBh.mono (Nat.le_trans hB.size z1))⟩
  case rest =>
    clear hB hL1 hL2
    obtain ⟨f0, h, g1, g2, rfl, rfl, hR0, hRh, hg12, hg1, hf0, hh0, hB⟩ := hcut
    obtain ⟨nlo, nhi, nMm, nlt⟩ := HNB.out
    obtain ⟨n1, n2, n3⟩ := norm_top hRh.1 hh0 hs hnb1 nlo nhi
    have hst := div_start ht hf0 nlt nMm
    have hDp : 0 < 2 ^ s * val ys := Nat.mul_pos (Nat.two_pow_pos s) (Nat.lt_of_lt_of_le (Nat.pow_pos M_pos) nMm)
    clear hh0 nlo nhi nMm nlt HNB
    rw [n1] at n3
    generalize hD : 2 ^ s * val ys = D at *
    go_wp2_with (refine wpList_make_row _ rfl _ _ 69 rfl 74 i0 (.int .u64 0) Tryz.underlying69 hi hz0 hz1 rfl .i64 .i64 t (congrArg (Value.int .i64) (by omega)) (congrArg (Value.int .i64) (by omega)) (by rw [hz2]; omega) (by omega) ?_)
    have hRq := row_made wc t
    have hR1 := hR0.alloc (.cells (madeCells #[.int .u64 0] t) 74)
    have hR2 := hRh.alloc (.cells (madeCells #[.int .u64 0] t) 74)
    have hB1 : Below w.heap.size w (wc.alloc (.cells (madeCells #[.int .u64 0] t) 74)) := hB.alloc hB.size _
    have hg23 := hRh.lt
    clear hR0 hRh hB
    generalize wc.alloc (.cells (madeCells #[.int .u64 0] t) 74) = w1 at *
    generalize wc.heap.size = g3 at *
    have e0 : ns.length + 1 - t = m + 1 := by omega
    rw [← e0] at hst
    go_loopw [13] (fun i wr => ∃ (c : Nat) (f q : Nat → Nat), c ≤ t ∧ i = .int .i64 ((c : Int) - 1) ∧ Row wr g1 (ns.length + 1) f ∧ Row wr g2 (m + 1 + 1) h ∧ Row wr g3 t q ∧ Below w.heap.size w wr ∧
        sm f c (ns.length + 1 - c) < D ∧ sm f 0 (ns.length + 1) + D * M ^ c * sm q c (t - c) = 2 ^ s * val xs)
      (fun i _ => (intOf i + 1).toNat)
    case atStart => exact ⟨t, f0, fun _ => 0, Nat.le_refl _, congrArg (Value.int .i64) (by omega), hR1, hR2, hRq, hB1, hst, start0 hf0 (sm_nought (fun _ _ => rfl))⟩
    case round =>
      obtain ⟨c, f, q, hc, rfl, hRf, hRh, hRq, hB, hhi, hN⟩ := hrel
      clear hR1 hR2 hB1 hst hf0 e0
      have HHI := Lib.hid hhi
      have HN := Lib.hid hN
      clear hhi hN
      rcases Nat.eq_zero_or_pos c with rfl | hpos
      · rw [show (((0 : Nat) : Int) - 1) = -1 by omega]
        have hWq := hRq.whole t (Nat.le_refl _)
        have hWf := hRf.whole (ns.length + 1) (Nat.le_refl _)
        go_wp2_with fail
        refine (trim_any _ _ _ hWq (by rw [upto_length]; omega)).mono ?_
        rintro e W7 ⟨vq, rfl, hLq, hB7⟩
        have K := shiftDown_any _ _ s W7 (hWf.next hB7) (by rw [upto_length]; omega) hs64
        rw [upto_length] at K
        have HK := Lib.hid K
        clear K
        go_wp2_with fail
        refine HK.out.mono ?_
        rintro e W8 ⟨f8, rfl, hR8, hB8, hs8⟩
        have hW8 := hR8.whole (ns.length + 1) (Nat.le_refl _)
        go_wp2_with fail
        refine (trim_any _ _ _ hW8 (by rw [upto_length]; omega)).mono ?_
        rintro e W9 ⟨vr, rfl, hLr, hB9⟩
        go_wp2
        go_ret3
        have hN := HN.out
        have hhi := HHI.out
        rw [← hD, show t - 0 = t from rfl] at hN
        rw [show ns.length + 1 - 0 = ns.length + 1 from rfl, ← hD] at hhi
        obtain ⟨x1, x2⟩ := div_end hN hhi
        rw [val_upto_sm, x1] at hLq
        rw [val_upto_sm, hs8, val_upto_sm, x2] at hLr
        exact ⟨vq, vr, rfl, (hLq.next hB8).next hB9, hLr, ((hB.trans (hB7.mono hB.size)).trans (hB8.mono (Nat.le_trans hB.size hB7.size))).trans (hB9.mono (Nat.le_trans (Nat.le_trans hB.size hB7.size) hB8.size))⟩
      · obtain ⟨k, rfl⟩ : ∃ k, c = k + 1 := ⟨c - 1, by omega⟩
        rw [show (((k + 1 : Nat) : Int) - 1) = (k : Int) by omega]
        have b1 : k + (m + 1) + 1 ≤ ns.length + 1 := by omega
        have b2 : (k : Int) + ((m : Int) + 1) + 1 ≤ (ns.length : Int) + 1 := by omega
        have b3 : k ≤ k + (m + 1) + 1 := by omega
        have hOff := hRh.off (g' := g1) (by omega) 0 (m + 1) (m + 1 + 1) (by omega) (by omega)
        have hbl : (upto (fun j => h (0 + j)) (m + 1)).length = m + 1 := upto_length _ _
        have hbv : val (upto (fun j => h (0 + j)) (m + 1)) = D := by rw [val_upto_sm, sm_shift]; exact n1
        have hbt : lat (upto (fun j => h (0 + j)) (m + 1)) m = h m := by rw [lat_upto _ (by omega), Nat.zero_add]
        generalize upto (fun j => h (0 + j)) (m + 1) = bs at *
        have hh2 := HHI.out
        rw [Nat.add_sub_add_right] at hh2
        obtain ⟨l1, l2⟩ := div_lt hRf.1 (Nat.le_of_lt n3) (show k + (m + 1) ≤ ns.length by omega) hh2
        have hdig : sm f k (m + 2) / D < M := (Nat.div_lt_iff_lt_mul hDp).2 l1
        have K := takeAll_any g1 (ns.length + 1) k (ns.length + 1 - k) m f _ bs wr hRf hOff hbl (by omega) (by omega) (by rw [hbt]; exact n2) (by rw [hbv]; exact l1) (by omega) (by omega)
        rw [hbv] at K
        have HK := Lib.hid K
        have HH2 := Lib.hid hh2
        clear K hh2 l1 l2 hOff hbl hbv hbt
        go_wp2_with fail
        rw [show k + (m + 1) + 1 - k = m + 2 by omega]
        refine HK.out.mono ?_
        rintro e W2 ⟨f', rfl, hRf', hO, hfo, hfr⟩
        have HFO := Lib.hid hfo
        have HFR := Lib.hid hfr
        clear HK hfo hfr
        have hRq' := hRq.of_block (hO.block g3 (by omega))
        have hRh' := hRh.of_block (hO.block g2 (by omega))
        have hB' : Below w.heap.size w W2 := hB.trans (hO.below hg1)
        obtain ⟨qd, hqd⟩ : ∃ qd, qd = sm f k (m + 2) / D := ⟨_, rfl⟩
        rw [← hqd] at hdig ⊢
        have HQD := Lib.hid hqd
        clear hqd
        have hcs := hRq'.cell (j := k) (by omega)
        have hfz := hRq'.frozen k
        have hkt : (k : Int) < (t : Int) := by omega
        have hkt' : k < t := by omega
        go_wp2_with fail
        go_roundw
        case rel =>
          refine ⟨k, f', upd q k qd, by omega, by go_num, hRf'.of_block (Below.heap_setCell _ _ _ _ (show g1 ≠ g3 by omega)), hRh'.of_block (Below.heap_setCell _ _ _ _ (show g2 ≠ g3 by omega)), hRq'.set k hdig, hB'.setCell (p := ⟨g3, k, none⟩) (show w.heap.size ≤ g3 by omega) _, ?_⟩
          have hst := div_step (q := q) (N := 2 ^ s * val xs) hRf.1 hDp (Nat.le_of_lt n3) ht (show k < t by omega) HH2.out HN.out HFO.out HFR.out
          rw [← HQD.out] at hst
          exact hst
        case measure => simp [intOf]

/-- By what is not 0, whichever is more. -/
theorem divide_any (v u : Value) (xs ys : List Nat) (w : World) (hLa : Lim w.heap.size w v xs) (hLb : Lim w.heap.size w u ys) (hlx : xs.length ≤ 274877906944) (hly : ys.length ≤ 274877906944) (h0 : val ys ≠ 0) :
    Calls Tryz.prog 107 #[v, u] w fun e W' => ∃ vq vr, e = .returned (.tuple #[vq, vr, .bool true]) ∧ Lim W'.heap.size W' vq (limbs (val xs / val ys)) ∧ Lim W'.heap.size W' vr (limbs (val xs % val ys)) ∧ Below w.heap.size w W' := by
  rcases Nat.lt_or_ge (val xs) (val ys) with h | h
  · refine (divide_less v u xs ys w hLa hLb hlx hly h).mono ?_
    rintro e W' ⟨vr, rfl, hr, hB⟩
    refine ⟨_, vr, rfl, ?_, ?_, hB⟩
    · rw [Nat.div_eq_of_lt h, limbs_zero]
      exact Lim.nil _ _
    · rw [Nat.mod_eq_of_lt h]
      exact hr
  · exact divide_main v u xs ys w hLa hLb hlx hly h0 h

end Go.Proofs.YtjnefacdindamaaGreatDoor
