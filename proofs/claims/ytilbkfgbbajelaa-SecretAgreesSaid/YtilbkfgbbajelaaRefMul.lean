/- The document's product (lodgeref02.Mul) is the product. Conditions: both slices read as limbs; lengths below 2^38. -/
import Derived.Test.YtilbkfgbbajelaaMulA
import Derived.Test.YtilbkfgbbajelaaRefB
import Derived.Test.YtilbkfgbbajelaaNumA
namespace Go.Proofs.Ytilbkfgbbajelaa
open Go.RowKit Go.Shelf Num
set_option linter.unusedVariables false

theorem mul64_quiet (x y : Nat) (hx : x < M) (hy : y < M) (w : World) (n : Nat) :
    Calls Try.prog 85 #[.int .u64 (x : Int), .int .u64 (y : Int)] (w.drewN n) fun e w' => e = .returned (.tuple #[.int .u64 ((mulHi x y : Nat) : Int), .int .u64 ((mulLo x y : Nat) : Int)]) ∧ w' = w.drewN n :=
  (mul64_any x y hx hy _).mono fun e w' h => ⟨h.1, h.2.symm⟩

set_option maxRecDepth 100000 in
set_option maxHeartbeats 8000000 in
theorem refMul_any (v u : Value) (xs ys : List Nat) (w : World) (hLa : Lim w.heap.size w v xs) (hLb : Lim w.heap.size w u ys) (hlx : xs.length ≤ 274877906944) (hly : ys.length ≤ 274877906944) :
    Calls Try.prog 76 #[v, u] w (Gives (val xs * val ys) w) := by
  obtain ⟨i0, hi, hz0, hz1, hz2⟩ := info_parts infoU
  have hox := hLa.ok
  have hoy := hLb.ok
  obtain ⟨A, ca, rfl, hca, hna, _, hra⟩ := id hLa
  obtain ⟨B, cb, rfl, hcb, hnb, _, hrb⟩ := id hLb
  go_enter Try.func76, Try.ntmps76
  go_wp2_with (refine wpList_make_row _ rfl _ _ 28 rfl 32 i0 (.int .u64 0) Try.underlying28 hi hz0 hz1 rfl .i64 .i64 (xs.length + ys.length + 1) rfl rfl (by rw [hz2]; omega) (by omega) ?_)
  have hR0 := row_made w (xs.length + ys.length + 1)
  have hB0 : Below w.heap.size w (w.alloc (.cells (madeCells #[.int .u64 0] (xs.length + ys.length + 1)) 32)) := (Below.refl _ w).alloc (Nat.le_refl _) _
  generalize w.alloc (.cells (madeCells #[.int .u64 0] (xs.length + ys.length + 1)) 32) = w1 at hR0 hB0 ⊢
  go_loopw [6] (fun i wr => ∃ (k : Nat) (f : Nat → Nat), k ≤ xs.length ∧ i = .int .i64 k ∧ Row wr w.heap.size (xs.length + ys.length + 1) f ∧ Below w.heap.size w wr ∧
      (∀ j, k + ys.length ≤ j → f j = 0) ∧ sm f 0 (k + ys.length) = sm (lat xs) 0 k * val ys)
    (fun i _ => xs.length - (intOf i).toNat)
  case atStart => exact ⟨0, fun _ => 0, Nat.zero_le _, rfl, hR0, hB0, fun _ _ => rfl, by rw [sm_nought (fun _ _ => rfl), sm_zero, Nat.zero_mul]⟩
  case round =>
    obtain ⟨k, f, hk, rfl, hR, hB, hz, he⟩ := hrel
    have HE := Lib.hid he
    have HZ := Lib.hid hz
    clear he hz
    by_cases hlt : k < xs.length
    · obtain ⟨b, off, rfl, hbg, hcell⟩ := hra (by omega)
      have hck := hcell k hlt
      clear hcell hra
      have hd : decide (k < xs.length) = true := by simpa using hlt
      have hx := ok_get hox k
      go_wp2_with fail
      go_loopw [7, 8] (fun c i wr => ∃ (l cc : Nat) (F : Nat → Nat), l ≤ ys.length ∧ i = .int .i64 l ∧ c = .int .u64 (cc : Int) ∧ cc < M ∧ Row wr w.heap.size (xs.length + ys.length + 1) F ∧ Below w.heap.size w wr ∧
          (∀ j, (j < k ∨ k + l ≤ j) → F j = f j) ∧ sm F k l + M ^ l * cc = sm f k l + lat xs k * sm (lat ys) 0 l)
        (fun _ i _ => ys.length - (intOf i).toNat)
      case atStart => exact ⟨0, 0, f, Nat.zero_le _, rfl, rfl, M_pos, hR, hB, fun _ _ => rfl, by simp [sm]⟩
      case round =>
        obtain ⟨l, c, F, hl, rfl, rfl, hc, hRF, hBF, hF, hE⟩ := hrel
        have HF := Lib.hid hF
        have HEi := Lib.hid hE
        clear hF hE hR hB
        by_cases hl2 : l < ys.length
        · obtain ⟨b', off', rfl, hbg', hcell'⟩ := hrb (by omega)
          have hcky : wr.cell? ⟨b', off' + l, none⟩ = some (.int .u64 ((lat ys l : Nat) : Int)) := (hBF.cell (p := ⟨b', off' + l, none⟩) hbg').trans (hcell' l hl2)
          have hckx : wr.cell? ⟨b, off + k, none⟩ = some (.int .u64 ((lat xs k : Nat) : Int)) := (hBF.cell (p := ⟨b, off + k, none⟩) hbg).trans hck
          clear hcell' hrb hck
          have hcs := hRF.cell (j := k + l) (by omega)
          have hfz := hRF.frozen (k + l)
          have hs := hRF.lim (k + l)
          have hy := ok_get hoy l
          obtain ⟨s1, s2, s3⟩ := ref_step hx hy hs hc
          have HS := Lib.hid s3
          clear s3
          have hd2 : decide (l < ys.length) = true := by simpa using hl2
          have i1 : (k : Int) < (xs.length : Int) := by omega
          have i2 : (l : Int) < (ys.length : Int) := by omega
          have i3 : (k : Int) + (l : Int) < (xs.length : Int) + (ys.length : Int) + 1 := by omega
          have i4 : k + l < xs.length + ys.length + 1 := by omega
          have ha1 : ∀ w, (callFunc 44 #[.int .u64 ((F (k + l) : Nat) : Int), .int .u64 ((mulLo (lat xs k) (lat ys l) : Nat) : Int), .int .u64 0]).run Try.prog w = _ := fun w => add64 (F (k + l)) (mulLo (lat xs k) (lat ys l)) 0 (by omega) w
          have ha2 : ∀ w, (callFunc 44 #[.int .u64 ((addLo (F (k + l)) (mulLo (lat xs k) (lat ys l)) 0 : Nat) : Int), .int .u64 (c : Int), .int .u64 0]).run Try.prog w = _ := fun w => add64 (addLo (F (k + l)) (mulLo (lat xs k) (lat ys l)) 0) c 0 (by omega) w
          go_wp2_with fail
          go_quiet ((go_at_call 85; refine Calls.quiet_of_same (mul64_quiet _ _ hx hy _ _)))
          have hRq := hRF.drewN nq
          have hBq := below_drewNs hBF nq
          go_wp2_with fail
          go_roundw
          case rel =>
            refine ⟨l + 1, _, upd F (k + l) (addLo (addLo (F (k + l)) (mulLo (lat xs k) (lat ys l)) 0) c 0), by omega, by go_num, (by rw [wrap_add s1, wrap_add s2]), s2, hRq.set _ (addLo_lt _ _ _), hBq.setCell (p := ⟨w.heap.size, k + l, none⟩) (Nat.le_refl _) _, ?_, ?_⟩
            · intro j hj
              rw [upd_other _ _ (by omega)]
              exact HF.out j (by omega)
            · rw [sm_upd_last, sm_succ, sm_succ, Nat.pow_succ, ← HF.out (k + l) (by omega), Nat.zero_add]
              exact add_round HEi.out HS.out
          case measure => simp [intOf]; omega
        · obtain rfl : l = ys.length := by omega
          have hd2 : decide (ys.length < ys.length) = false := by simp
          have hFz : F (k + ys.length) = 0 := (HF.out _ (.inr (Nat.le_refl _))).trans (HZ.out _ (Nat.le_refl _))
          have HFZ := Lib.hid hFz
          clear hFz hck
          rw [← val_sm] at HEi
          go_wp2_with fail
          go_loopw [7, 14] (fun cv kv wr => ∃ (cc p : Nat) (F' : Nat → Nat), cv = .int .u64 (cc : Int) ∧ kv = .int .i64 (p : Int) ∧ Row wr w.heap.size (xs.length + ys.length + 1) F' ∧ Below w.heap.size w wr ∧
              ((cc = c ∧ p = k + ys.length ∧ F' = F) ∨ (cc = 0 ∧ F' = upd F (k + ys.length) c)))
            (fun cv _ _ => (intOf cv).toNat)
          case atStart => exact ⟨c, k + ys.length, F, rfl, congrArg (Value.int .i64) (by omega), hRF, hBF, .inl ⟨rfl, rfl, rfl⟩⟩
          case round =>
            clear hRF hBF
            obtain ⟨cc, p, F', rfl, rfl, hR', hB', hcase⟩ := hrel
            have hex : (cc = 0 ∧ Row wr w.heap.size (xs.length + ys.length + 1) (upd F (k + ys.length) c)) ∨ (0 < cc ∧ cc = c ∧ p = k + ys.length ∧ F' = F) := by
              rcases hcase with ⟨h1, h2, h3⟩ | ⟨h1, h2⟩
              · rcases Nat.eq_zero_or_pos cc with h4 | h4
                · refine .inl ⟨h4, ?_⟩
                  rw [← h1, h4, upd_nought HFZ.out, ← h3]
                  exact hR'
                · exact .inr ⟨h4, h1, h2, h3⟩
              · exact .inl ⟨h1, by rw [← h2]; exact hR'⟩
            clear hcase
            rcases hex with ⟨h0, hU⟩ | ⟨h0, rfl, rfl, rfl⟩
            · subst h0
              have hd3 : decide (0 < ((0 : Nat) : Int)) = false := by simp
              go_wp2_with fail
              go_roundw
              case rel =>
                refine ⟨k + 1, upd F (k + ys.length) c, by omega, by go_num, hU, hB', ?_, ?_⟩
                · intro j hj
                  rw [upd_other _ _ (by omega), HF.out j (by omega)]
                  exact HZ.out j (by omega)
                · rw [sm_succ, Nat.zero_add]
                  exact mul_outer (fun j hj => HF.out j (.inl hj)) HEi.out HE.out
              case measure => simp [intOf]; omega
            · have hd3 : decide (0 < (cc : Int)) = true := decide_eq_true (by omega)
              have hd4 : decide (0 < cc) = true := decide_eq_true h0
              obtain ⟨z1, z2⟩ := add_nought hc
              have ha : ∀ w, (callFunc 44 #[.int .u64 0, .int .u64 (cc : Int), .int .u64 0]).run Try.prog w = .ok (.value (.tuple #[.int .u64 (cc : Int), .int .u64 0])) w := by
                intro w
                have h := add64 0 cc 0 (by omega) w
                rw [z1, z2] at h
                exact h
              have hcs : wr.cell? ⟨w.heap.size, k + ys.length, none⟩ = some (.int .u64 0) := by
                rw [hR'.cell (j := k + ys.length) (by omega), HFZ.out]
                rfl
              have hfz := hR'.frozen (k + ys.length)
              have i3 : (k : Int) + (ys.length : Int) < (xs.length : Int) + (ys.length : Int) + 1 := by omega
              have i4 : k + ys.length < xs.length + ys.length + 1 := by omega
              clear z1 z2
              go_wp2_with fail
              go_roundw
              case rel => exact ⟨0, k + ys.length + 1, upd F' (k + ys.length) cc, rfl, congrArg (Value.int .i64) (by omega), hR'.set _ hc, hB'.setCell (p := ⟨w.heap.size, k + ys.length, none⟩) (Nat.le_refl _) _, .inr ⟨rfl, rfl⟩⟩
              case measure => simp [intOf]; omega
    · obtain rfl : k = xs.length := by omega
      have hd : decide (xs.length < xs.length) = false := by simp
      have hW := hR.whole (xs.length + ys.length + 1) (Nat.le_refl _)
      go_wp2_with fail
      refine (refTrim_any _ _ _ hW (by rw [upto_length]; omega)).mono ?_
      rintro e W1 ⟨r, rfl, hLr, hBr⟩
      go_wp2
      go_ret
      refine ⟨r, rfl, ?_, hB.trans (hBr.mono hB.size)⟩
      have e : val (upto f (xs.length + ys.length + 1)) = val xs * val ys := by
        rw [val_upto_sm, val_sm xs, ← HE.out]
        exact cut0 (sm_succ f 0 _) (by rw [Nat.zero_add]; exact HZ.out _ (Nat.le_refl _))
      rw [← e]
      exact hLr

end Go.Proofs.Ytilbkfgbbajelaa
