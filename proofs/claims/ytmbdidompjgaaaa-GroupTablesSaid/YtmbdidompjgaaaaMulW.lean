/- long.Mul answers the product. Conditions: both slices read as limbs; lengths below 2^40. -/
import Derived.Test.YtmbdidompjgaaaaAddT
import Derived.Test.YtmbdidompjgaaaaNat
namespace Go.Proofs.Ytmbdidompjgaaaa
open Go.RowKit Go.Shelf Num
set_option linter.unusedVariables false

set_option maxRecDepth 100000 in
set_option maxHeartbeats 4000000 in
theorem mul_any (v u : Value) (xs ys : List Nat) (w : World) (hLa : Lim w.heap.size w v xs) (hLb : Lim w.heap.size w u ys) (hlx : xs.length ≤ 549755813888) (hly : ys.length ≤ 549755813888) :
    Calls Try.prog 55 #[v, u] w (Gives (val xs * val ys) w) := by
  obtain ⟨i0, hi, hz0, hz1, hz2⟩ := info_parts infoU
  have hox := hLa.ok
  have hoy := hLb.ok
  obtain ⟨A, ca, rfl, hca, hna, _, hra⟩ := id hLa
  obtain ⟨B, cb, rfl, hcb, hnb, _, hrb⟩ := id hLb
  go_enter Try.func55, Try.ntmps55
  go_wp2_with (refine wpList_make_row _ rfl _ _ 25 rfl 28 i0 (.int .u64 0) Try.underlying25 hi hz0 hz1 rfl .i64 .i64 (xs.length + ys.length) rfl rfl (by rw [hz2]; omega) (by omega) ?_)
  have hR0 := row_made w (xs.length + ys.length)
  have hB0 : Below w.heap.size w (w.alloc (.cells (madeCells #[.int .u64 0] (xs.length + ys.length)) 28)) := (Below.refl _ w).alloc (Nat.le_refl _) _
  generalize w.alloc (.cells (madeCells #[.int .u64 0] (xs.length + ys.length)) 28) = w1 at hR0 hB0 ⊢
  go_loopw [16] (fun i wr => ∃ (k : Nat) (f : Nat → Nat), k ≤ xs.length ∧ i = .int .i64 k ∧ Row wr w.heap.size (xs.length + ys.length) f ∧ Below w.heap.size w wr ∧
      (∀ j, k + ys.length ≤ j → f j = 0) ∧ sm f 0 (k + ys.length) = sm (lat xs) 0 k * val ys)
    (fun i _ => xs.length - (intOf i).toNat)
  case atStart => exact ⟨0, fun _ => 0, Nat.zero_le _, rfl, hR0, hB0, fun _ _ => rfl, by rw [sm_nought (fun _ _ => rfl), sm_zero, Nat.zero_mul]⟩
  case round =>
    obtain ⟨k, f, hk, rfl, hR, hB, hz, he⟩ := hrel
    have HE := Lib.hid he
    have HZ := Lib.hid hz
    clear he hz
    by_cases hlt : k < xs.length
    · obtain ⟨b, off, rfl, hbg, hcell⟩ := hra (by omega)
      have hck : wr.cell? ⟨b, off + k, none⟩ = some (.int .u64 ((lat xs k : Nat) : Int)) := (hB.cell (p := ⟨b, off + k, none⟩) hbg).trans (hcell k hlt)
      clear hcell hra
      have hd : decide (k < xs.length) = true := by simpa using hlt
      have hx := ok_get hox k
      have hc1 : k ≤ xs.length + ys.length := by omega
      have hc2 : (k : Int) ≤ ((xs.length + ys.length : Nat) : Int) := by omega
      have hc3 : (k : Int) ≤ (xs.length : Int) + (ys.length : Int) := by omega
      go_wp2_with fail
      refine (addTimes_any w.heap.size (xs.length + ys.length) k (xs.length + ys.length - k) (xs.length + ys.length - k) f _ ys (lat xs k) wr hR ((hLb.below hB).off (Nat.le_refl _)) (by omega) (by omega) (Nat.le_refl _) hx (by omega) (by omega)).mono ?_
      rintro e W1 ⟨c, f', rfl, hcM, hR1, hO1, hf1, he1⟩
      have HE1 := Lib.hid he1
      have HF1 := Lib.hid hf1
      clear he1 hf1
      have hcs := hR1.cell (j := k + ys.length) (by omega)
      have hfz := hR1.frozen (k + ys.length)
      have hi1 : k + ys.length < xs.length + ys.length := by omega
      have hi2 : (k : Int) + (ys.length : Int) < (xs.length : Int) + (ys.length : Int) := by omega
      have hi3 : ((k + ys.length : Nat) : Int) < ((xs.length + ys.length : Nat) : Int) := by omega
      have hB1 : Below w.heap.size w W1 := hB.trans (hO1.below (Nat.le_refl _))
      go_wp2_with fail
      go_roundw
      case rel =>
        refine ⟨k + 1, upd f' (k + ys.length) c, by omega, by go_num, hR1.set _ hcM, hB1.setCell (p := ⟨w.heap.size, k + ys.length, none⟩) (Nat.le_refl _) _, ?_, ?_⟩
        · intro j hj
          rw [upd_other _ _ (by omega), HF1.out j (by omega)]
          exact HZ.out j (by omega)
        · rw [sm_succ, Nat.zero_add]
          exact mul_outer (fun j hj => HF1.out j (.inl hj)) HE1.out HE.out
      case measure => simp [intOf]; omega
    · obtain rfl : k = xs.length := by omega
      have hd : decide (xs.length < xs.length) = false := by simp
      have hW := hR.whole (xs.length + ys.length) (Nat.le_refl _)
      go_wp2_with fail
      refine (trim_any _ _ _ hW (by rw [upto_length]; omega)).mono ?_
      rintro e W1 ⟨r, rfl, hLr, hBr⟩
      go_wp2
      go_ret
      refine ⟨r, rfl, ?_, hB.trans (hBr.mono hB.size)⟩
      have e : val (upto f (xs.length + ys.length)) = val xs * val ys := by rw [val_upto_sm, HE.out, ← val_sm]
      rw [← e]
      exact hLr

end Go.Proofs.Ytmbdidompjgaaaa
