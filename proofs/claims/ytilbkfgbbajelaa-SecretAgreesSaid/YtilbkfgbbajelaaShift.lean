/- long.shiftUp and long.shiftDown: a number times 2 to a power below 64, and a number by it. Conditions: the slice reads as limbs; lengths below 2^40. -/
import Derived.Test.YtilbkfgbbajelaaMulA
import Derived.Test.YtilbkfgbbajelaaNat
import Derived.Laws.Bits64b
namespace Go.Proofs.Ytilbkfgbbajelaa
open Go.RowKit Go.Shelf Num
set_option linter.unusedVariables false

theorem pow_split {s : Nat} (hs : s < 64) : 2 ^ s * 2 ^ (64 - s) = M := by
  rw [← Nat.pow_add, M_two]
  congr 1
  omega
theorem pow_le_M {s : Nat} (hs : s < 64) : 2 ^ s ≤ M := by
  rw [M_two]
  exact Nat.pow_le_pow_right (by omega) (by omega)
theorem up_mod (x : Nat) {s : Nat} (hs : s < 64) : x * 2 ^ s % M = 2 ^ s * (x % 2 ^ (64 - s)) := by
  rw [← pow_split hs, Nat.mul_comm x, Nat.mul_mod_mul_left]
theorem or_low {c y s : Nat} (hc : c < 2 ^ s) : c ||| 2 ^ s * y = c + 2 ^ s * y := by
  rw [Nat.or_comm, ← Nat.two_pow_add_eq_or_of_lt hc, Nat.add_comm]
theorem wrap_shl (x s : Nat) : IntKind.u64.wrap ((x : Int) * 2 ^ s) = ((x * 2 ^ s % M : Nat) : Int) := by
  have e : (x : Int) * 2 ^ s = ((x * 2 ^ s : Nat) : Int) := by rw [Int.natCast_mul, Int.natCast_pow]; rfl
  rw [e, IntKind.wrap_u64]
  unfold M
  omega
theorem shr_nat (x t : Nat) : (x : Int) / 2 ^ t = ((x / 2 ^ t : Nat) : Int) := by rw [Int.natCast_ediv, Int.natCast_pow]; rfl
theorem or_up {c x s : Nat} (hc : c < 2 ^ s) (hcM : c < M) (hs : s < 64) : bits BinOp.or IntKind.u64 (c : Int) (IntKind.u64.wrap ((x : Int) * 2 ^ s)) = ((c + 2 ^ s * (x % 2 ^ (64 - s)) : Nat) : Int) := by
  have h1 : x * 2 ^ s % M < 18446744073709551616 := Nat.mod_lt _ M_pos
  rw [wrap_shl, bits_or_u64_nat _ _ hcM h1, up_mod x hs, or_low hc]
/-- What is laid with a limb that is shifted up. -/
theorem up_step {c x s : Nat} (hc : c < 2 ^ s) (hx : x < M) (hs : s < 64) : c + 2 ^ s * (x % 2 ^ (64 - s)) < M ∧ x / 2 ^ (64 - s) < 2 ^ s ∧ c + 2 ^ s * (x % 2 ^ (64 - s)) + M * (x / 2 ^ (64 - s)) = c + 2 ^ s * x := by
  have hp := pow_split hs
  have h1 := Nat.mod_lt x (Nat.two_pow_pos (64 - s))
  have h2 := Nat.mod_add_div x (2 ^ (64 - s))
  refine ⟨?_, ?_, ?_⟩
  · have h3 : 2 ^ s * (x % 2 ^ (64 - s) + 1) ≤ 2 ^ s * 2 ^ (64 - s) := Nat.mul_le_mul_left _ h1
    rw [hp, Nat.mul_add] at h3
    omega
  · exact Nat.div_lt_of_lt_mul (by rw [Nat.mul_comm, hp]; exact hx)
  · rw [← hp, Nat.mul_assoc, Nat.add_assoc, ← Nat.mul_add, h2]
theorem up_round {f : Nat → Nat} {k s v c' x X : Nat} (h : sm f 0 (k + 1) = 2 ^ s * X) (e : v + M * c' = f k + 2 ^ s * x) : sm (upd (upd f k v) (k + 1) c') 0 (k + 1 + 1) = 2 ^ s * (X + M ^ k * x) := by
  have e1 := sm_upd_last (upd f k v) 0 (k + 1) c'
  rw [Nat.zero_add] at e1
  have e2 := sm_upd_last f 0 k v
  rw [Nat.zero_add] at e2
  rw [sm_succ, Nat.zero_add] at h
  rw [e1, e2, Nat.mul_add, ← h, Nat.pow_succ, Nat.mul_assoc, Nat.add_assoc, ← Nat.mul_add, e, Nat.mul_add, Nat.mul_left_comm (2 ^ s), Nat.add_assoc]

set_option maxRecDepth 100000 in
set_option maxHeartbeats 4000000 in
theorem shiftUp_any (v : Value) (xs : List Nat) (s : Nat) (w : World) (hL : Lim w.heap.size w v xs) (hlx : xs.length ≤ 549755813888) (hs : s < 64) :
    Calls Try.prog 67 #[v, .int .i64 (s : Int)] w fun e w' => ∃ f : Nat → Nat, e = .returned (.slice (some ⟨w.heap.size, 0, none⟩) (xs.length + 1) (xs.length + 1)) ∧ Row w' w.heap.size (xs.length + 1) f ∧ Below w.heap.size w w' ∧
      sm f 0 (xs.length + 1) = 2 ^ s * val xs := by
  obtain ⟨i0, hi, hz0, hz1, hz2⟩ := info_parts infoU
  have hox := hL.ok
  obtain ⟨A, ca, rfl, hca, hna, _, hra⟩ := id hL
  go_enter Try.func67, Try.ntmps67
  go_wp2_with (refine wpList_make_row _ rfl _ _ 28 rfl 32 i0 (.int .u64 0) Try.underlying28 hi hz0 hz1 rfl .i64 .i64 (xs.length + 1) rfl rfl (by rw [hz2]; omega) (by omega) ?_)
  have hR0 := row_made w (xs.length + 1)
  have hB0 : Below w.heap.size w (w.alloc (.cells (madeCells #[.int .u64 0] (xs.length + 1)) 32)) := (Below.refl _ w).alloc (Nat.le_refl _) _
  generalize w.alloc (.cells (madeCells #[.int .u64 0] (xs.length + 1)) 32) = w1 at hR0 hB0 ⊢
  go_loopw [14] (fun i wr => ∃ (k : Nat) (f : Nat → Nat), k ≤ xs.length ∧ i = .int .i64 k ∧ Row wr w.heap.size (xs.length + 1) f ∧ Below w.heap.size w wr ∧
      f k < 2 ^ s ∧ sm f 0 (k + 1) = 2 ^ s * sm (lat xs) 0 k)
    (fun i _ => xs.length - (intOf i).toNat)
  case atStart => exact ⟨0, fun _ => 0, Nat.zero_le _, rfl, hR0, hB0, Nat.two_pow_pos _, by simp [sm]⟩
  case round =>
    obtain ⟨k, f, hk, rfl, hR, hB, hz, he⟩ := hrel
    have HE := Lib.hid he
    have HZ := Lib.hid hz
    clear he hz
    by_cases hlt : k < xs.length
    · obtain ⟨b, off, rfl, hbg, hcell⟩ := hra (by omega)
      have hck : wr.cell? ⟨b, off + k, none⟩ = some (.int .u64 ((lat xs k : Nat) : Int)) := (hB.cell (p := ⟨b, off + k, none⟩) hbg).trans (hcell k hlt)
      clear hcell hra
      have hd : decide (k < xs.length) = true := by simpa using hlt
      have hx := ok_get hox k
      have hcs := hR.cell (j := k) (by omega)
      have hfz := hR.frozen k
      have hi1 : k < xs.length + 1 := by omega
      have hi2 : (k : Int) < (xs.length : Int) + 1 := by omega
      have hor := or_up (x := lat xs k) HZ.out (hR.1 k) hs
      obtain ⟨s1, s2, s3⟩ := up_step HZ.out hx hs
      have hsr := shr_nat (lat xs k) (64 - s)
      generalize f k + 2 ^ s * (lat xs k % 2 ^ (64 - s)) = v at *
      generalize lat xs k / 2 ^ (64 - s) = c' at *
      have HS3 := Lib.hid s3
      have HS2 := Lib.hid s2
      clear s3 s2
      go_wp2_with fail
      go_region
      clear hor hcs hfz hck
      have hR1 : Row (wr.setCell ⟨w.heap.size, k, none⟩ (.int .u64 (v : Int))).drew w.heap.size (xs.length + 1) (upd f k v) := hR.set k s1
      have hB1 : Below w.heap.size w (wr.setCell ⟨w.heap.size, k, none⟩ (.int .u64 (v : Int))).drew := (hB.setCell (p := ⟨w.heap.size, k, none⟩) (Nat.le_refl _) _).drew
      generalize (wr.setCell ⟨w.heap.size, k, none⟩ (.int .u64 (v : Int))).drew = W2 at *
      have hcs := hR1.cell (j := k + 1) (by omega)
      have hfz := hR1.frozen (k + 1)
      have hi1 : k + 1 < xs.length + 1 := by omega
      have hi2 : (k : Int) + 1 < (xs.length : Int) + 1 := by omega
      go_wp2_with fail
      go_roundw
      case rel =>
        refine ⟨k + 1, upd (upd f k v) (k + 1) c', by omega, by go_num, hR1.set _ (Nat.lt_of_lt_of_le HS2.out (pow_le_M hs)), hB1.setCell (p := ⟨w.heap.size, k + 1, none⟩) (Nat.le_refl _) _, by rw [upd_same]; exact HS2.out, ?_⟩
        rw [sm_succ (lat xs) 0 k, Nat.zero_add]
        exact up_round HE.out HS3.out
      case measure => simp [intOf]; omega
    · obtain rfl : k = xs.length := by omega
      have hd : decide (xs.length < xs.length) = false := by simp
      go_wp2
      go_ret
      exact ⟨f, rfl, hR, hB, by rw [val_sm]; exact HE.out⟩

theorem or_down {a x s : Nat} (ha : a < 2 ^ (64 - s)) (haM : a < M) (hs : s < 64) : bits BinOp.or IntKind.u64 (a : Int) (IntKind.u64.wrap ((x : Int) * 2 ^ (64 - s))) = ((a + 2 ^ (64 - s) * (x % 2 ^ s) : Nat) : Int) := by
  have h1 : x * 2 ^ (64 - s) % M < 18446744073709551616 := Nat.mod_lt _ M_pos
  rw [wrap_shl, bits_or_u64_nat _ _ haM h1]
  have e : x * 2 ^ (64 - s) % M = 2 ^ (64 - s) * (x % 2 ^ s) := by rw [← pow_split hs, Nat.mul_comm x, Nat.mul_comm (2 ^ s), Nat.mul_mod_mul_left]
  rw [e, or_low ha]
theorem down_step {y x s : Nat} (hy : y < M) (hs : s < 64) : y / 2 ^ s < 2 ^ (64 - s) ∧ y / 2 ^ s < M ∧ y / 2 ^ s + 2 ^ (64 - s) * (x % 2 ^ s) < M ∧ 2 ^ (64 - s) * (x % 2 ^ s) + M * (x / 2 ^ s) = 2 ^ (64 - s) * x := by
  have hp := pow_split hs
  have h1 := Nat.mod_lt x (Nat.two_pow_pos s)
  have h2 := Nat.mod_add_div x (2 ^ s)
  have h0 : y / 2 ^ s < 2 ^ (64 - s) := Nat.div_lt_of_lt_mul (by rw [hp]; exact hy)
  refine ⟨h0, Nat.lt_of_le_of_lt (Nat.div_le_self _ _) hy, ?_, ?_⟩
  · have h3 : 2 ^ (64 - s) * (x % 2 ^ s + 1) ≤ 2 ^ (64 - s) * 2 ^ s := Nat.mul_le_mul_left _ h1
    rw [Nat.mul_comm (2 ^ (64 - s)) (2 ^ s), hp, Nat.mul_add] at h3
    omega
  · rw [← hp, Nat.mul_comm (2 ^ s), Nat.mul_assoc, ← Nat.mul_add, h2]
theorem down_round {f : Nat → Nat} {j s v b x A : Nat} (hs : s < 64) (h : sm f 0 (j + 1) = A / 2 ^ s) (e : v + M * b = f j + 2 ^ (64 - s) * x) : sm (upd (upd f (j + 1) b) j v) 0 (j + 1 + 1) = (A + M ^ (j + 1) * x) / 2 ^ s := by
  have e1 : sm (upd (upd f (j + 1) b) j v) 0 (j + 1) = sm f 0 j + M ^ j * v := by
    have := sm_upd_last (upd f (j + 1) b) 0 j v
    rw [Nat.zero_add] at this
    rw [this, sm_upd_out f b (.inr (by omega))]
  rw [sm_succ, e1, Nat.zero_add, upd_other _ _ (by omega), upd_same, Nat.pow_succ]
  rw [sm_succ, Nat.zero_add] at h
  have e2 : M ^ j * M * x = 2 ^ s * (M ^ j * (2 ^ (64 - s) * x)) := by
    rw [← pow_split hs]
    simp only [Nat.mul_assoc, Nat.mul_left_comm, Nat.mul_comm]
  rw [e2, Nat.add_mul_div_left _ _ (Nat.two_pow_pos s), ← h, Nat.mul_assoc, Nat.add_assoc, ← Nat.mul_add, e, Nat.mul_add, Nat.add_assoc]

set_option maxRecDepth 100000 in
set_option maxHeartbeats 4000000 in
theorem shiftDown_any (v : Value) (xs : List Nat) (s : Nat) (w : World) (hL : Lim w.heap.size w v xs) (hlx : xs.length ≤ 549755813888) (hs : s < 64) :
    Calls Try.prog 69 #[v, .int .i64 (s : Int)] w fun e w' => ∃ f : Nat → Nat, e = .returned (.slice (some ⟨w.heap.size, 0, none⟩) xs.length xs.length) ∧ Row w' w.heap.size xs.length f ∧ Below w.heap.size w w' ∧
      sm f 0 xs.length = val xs / 2 ^ s := by
  obtain ⟨i0, hi, hz0, hz1, hz2⟩ := info_parts infoU
  have hox := hL.ok
  obtain ⟨A, ca, rfl, hca, hna, _, hra⟩ := id hL
  go_enter Try.func69, Try.ntmps69
  go_wp2_with (refine wpList_make_row _ rfl _ _ 28 rfl 32 i0 (.int .u64 0) Try.underlying28 hi hz0 hz1 rfl .i64 .i64 xs.length rfl rfl (by rw [hz2]; omega) (by omega) ?_)
  have hR0 := row_made w xs.length
  have hB0 : Below w.heap.size w (w.alloc (.cells (madeCells #[.int .u64 0] xs.length) 32)) := (Below.refl _ w).alloc (Nat.le_refl _) _
  generalize w.alloc (.cells (madeCells #[.int .u64 0] xs.length) 32) = w1 at hR0 hB0 ⊢
  go_loopw [13] (fun i wr => ∃ (k : Nat) (f : Nat → Nat), k ≤ xs.length ∧ i = .int .i64 k ∧ Row wr w.heap.size xs.length f ∧ Below w.heap.size w wr ∧
      (∀ j, k = j + 1 → f j = lat xs j / 2 ^ s) ∧ sm f 0 k = sm (lat xs) 0 k / 2 ^ s)
    (fun i _ => xs.length - (intOf i).toNat)
  case atStart => exact ⟨0, fun _ => 0, Nat.zero_le _, rfl, hR0, hB0, fun j hj => by omega, by simp [sm]⟩
  case round =>
    obtain ⟨k, f, hk, rfl, hR, hB, hz, he⟩ := hrel
    have HE := Lib.hid he
    have HZ := Lib.hid hz
    clear he hz
    by_cases hlt : k < xs.length
    · obtain ⟨b, off, rfl, hbg, hcell⟩ := hra (by omega)
      have hck : wr.cell? ⟨b, off + k, none⟩ = some (.int .u64 ((lat xs k : Nat) : Int)) := (hB.cell (p := ⟨b, off + k, none⟩) hbg).trans (hcell k hlt)
      clear hcell hra
      have hd : decide (k < xs.length) = true := by simpa using hlt
      have hx := ok_get hox k
      have hcs := hR.cell (j := k) (by omega)
      have hfz := hR.frozen k
      have hi2 : (k : Int) < (xs.length : Int) := by omega
      have hsr := shr_nat (lat xs k) s
      by_cases hp : k = 0
      · have hq : lat xs k / 2 ^ s < M := Nat.lt_of_le_of_lt (Nat.div_le_self _ _) hx
        obtain ⟨q, hqe⟩ : ∃ q, q = lat xs k / 2 ^ s := ⟨_, rfl⟩
        rw [← hqe] at hq hsr
        have HQ := Lib.hid hqe
        have HP := Lib.hid hp
        have hg1 : decide (0 < (k : Int)) = false := by simp; omega
        have hg2 : decide (0 < k) = false := by simp; omega
        clear hqe hp
        go_wp2_with fail
        go_roundw
        case rel =>
          refine ⟨k + 1, upd f k q, by omega, by go_num, hR.set _ hq, hB.setCell (p := ⟨w.heap.size, k, none⟩) (Nat.le_refl _) _, ?_, ?_⟩
          · intro j hj
            obtain rfl : j = k := by omega
            rw [upd_same]
            exact HQ.out
          · obtain rfl := HP.out
            have e := sm_upd_last f 0 0 q
            rw [Nat.zero_add] at e
            rw [e, HQ.out]
            simp [sm]
        case measure => simp [intOf]; omega
      · obtain ⟨j, rfl⟩ : ∃ j, k = j + 1 := ⟨k - 1, by omega⟩
        have hy := ok_get hox j
        obtain ⟨s0, s1, s2, s3⟩ := down_step (x := lat xs (j + 1)) hy hs
        have hfj := HZ.out j rfl
        have hor := or_down (x := lat xs (j + 1)) s0 s1 hs
        rw [← hfj] at s0 s1 s2 hor
        have hv2 : f j + 2 ^ (64 - s) * (lat xs (j + 1) % 2 ^ s) + M * (lat xs (j + 1) / 2 ^ s) = f j + 2 ^ (64 - s) * lat xs (j + 1) := by rw [Nat.add_assoc, s3]
        clear s3
        have hq : lat xs (j + 1) / 2 ^ s < M := Nat.lt_of_le_of_lt (Nat.div_le_self _ _) hx
        obtain ⟨q, hqe⟩ : ∃ q, q = lat xs (j + 1) / 2 ^ s := ⟨_, rfl⟩
        rw [← hqe] at hq hsr hv2
        obtain ⟨v, hve⟩ : ∃ v, v = f j + 2 ^ (64 - s) * (lat xs (j + 1) % 2 ^ s) := ⟨_, rfl⟩
        rw [← hve] at s2 hor hv2
        have HQ := Lib.hid hqe
        have HV := Lib.hid hv2
        clear hqe hve hv2 hfj
        have hg1 : decide (0 < (j : Int) + 1) = true := decide_eq_true (by omega)
        go_wp2_with fail
        have hR1 : Row (wr.setCell ⟨w.heap.size, j + 1, none⟩ (.int .u64 (q : Int))) w.heap.size xs.length (upd f (j + 1) q) := hR.set (j + 1) hq
        have hB1 : Below w.heap.size w (wr.setCell ⟨w.heap.size, j + 1, none⟩ (.int .u64 (q : Int))) := hB.setCell (p := ⟨w.heap.size, j + 1, none⟩) (Nat.le_refl _) _
        clear hcs hfz hck
        generalize wr.setCell ⟨w.heap.size, j + 1, none⟩ (.int .u64 (q : Int)) = W2 at *
        have hcs := hR1.cell (j := j) (by omega)
        rw [upd_other f q (by omega)] at hcs
        have hfz := hR1.frozen j
        have hi3 : (j : Int) < (xs.length : Int) := by omega
        have hi4 : j < xs.length := by omega
        go_region
        have hR2 : Row (W2.setCell ⟨w.heap.size, j, none⟩ (.int .u64 (v : Int))).drew w.heap.size xs.length (upd (upd f (j + 1) q) j v) := hR1.set j s2
        have hB2 : Below w.heap.size w (W2.setCell ⟨w.heap.size, j, none⟩ (.int .u64 (v : Int))).drew := (hB1.setCell (p := ⟨w.heap.size, j, none⟩) (Nat.le_refl _) _).drew
        go_wp2_with fail
        go_roundw
        case rel =>
          refine ⟨j + 1 + 1, upd (upd f (j + 1) q) j v, by omega, by go_num, hR2, hB2, ?_, ?_⟩
          · intro i hi
            obtain rfl : i = j + 1 := by omega
            rw [upd_other _ _ (by omega), upd_same]
            exact HQ.out
          · rw [sm_succ (lat xs) 0 (j + 1), Nat.zero_add]
            exact down_round hs HE.out HV.out
        case measure => simp [intOf]; omega
    · obtain rfl : k = xs.length := by omega
      have hd : decide (xs.length < xs.length) = false := by simp
      go_wp2
      go_ret
      exact ⟨f, rfl, hR, hB, by rw [val_sm]; exact HE.out⟩

end Go.Proofs.Ytilbkfgbbajelaa
