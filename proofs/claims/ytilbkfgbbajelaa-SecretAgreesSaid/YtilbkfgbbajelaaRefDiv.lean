/- The document's division (lodgeref02.Divide), bit by bit, is the division. Conditions: both slices read as limbs; lengths below 2^38. -/
import Derived.Test.YtilbkfgbbajelaaRefF
import Derived.Test.YtilbkfgbbajelaaRefB
import Derived.Test.YtilbkfgbbajelaaBuf
import Derived.Test.YtilbkfgbbajelaaNumA
import Derived.Test.YtilbkfgbbajelaaDivide
import Derived.Test.YtilbkfgbbajelaaLenA
namespace Go.Proofs.Ytilbkfgbbajelaa
open Go.RowKit Go.Shelf Num
set_option linter.unusedVariables false

theorem Lim.set_off {n₀ : Nat} {w : World} {v : Value} {xs : List Nat} (h : Lim n₀ w v xs) {g N : Nat} (hf : Fresh N v) (hg : g < N) (i : Nat) (u : Value) : Lim n₀ (w.setCell ⟨g, i, none⟩ u) v xs := by
  obtain ⟨A, cap, hv, hc, hn, ho, hr⟩ := h
  refine ⟨A, cap, hv, hc, hn, ho, fun hp => ?_⟩
  obtain ⟨b, off, hA, hb, hcell⟩ := hr hp
  have hb2 : N ≤ b := hf b (by rw [hv, hA]; rfl)
  exact ⟨b, off, hA, hb, fun j hj => (World.cell?_of_block (w := w) (Below.heap_setCell w _ u b (by dsimp only; omega))).trans (hcell j hj)⟩

theorem or_bit {q0 t y : Nat} (ht : t < 64) (hq : q0 < M) (hy : q0 = 2 ^ (t + 1) * y) : bits BinOp.or IntKind.u64 (q0 : Int) (IntKind.u64.wrap (2 ^ t)) = ((q0 + 2 ^ t : Nat) : Int) ∧ q0 + 2 ^ t < M := by
  have h1 : 2 ^ t < 2 ^ (t + 1) := Nat.pow_lt_pow_right (by omega) (by omega)
  have h2 : 2 ^ t < M := Nat.lt_of_lt_of_le h1 (by rw [M_two]; exact Nat.pow_le_pow_right (by omega) (by omega))
  have e : IntKind.u64.wrap ((2 : Int) ^ t) = ((2 ^ t : Nat) : Int) := by
    rw [show (2 : Int) ^ t = ((2 ^ t : Nat) : Int) by rw [Int.natCast_pow]; rfl, IntKind.wrap_u64]
    unfold M at h2
    generalize 2 ^ t = z at *
    omega
  have e2 : q0 ||| 2 ^ t = q0 + 2 ^ t := by rw [hy, Nat.or_comm, or_low h1, Nat.add_comm]
  rw [e, bits_or_u64_nat _ _ hq h2, e2]
  refine ⟨rfl, ?_⟩
  rw [← e2, M_two]
  rw [M_two] at hq h2
  exact Nat.or_lt_two_pow hq h2
theorem double_len {r V b k : Nat} (h : r < V) (g : V < M ^ k) (hb : b ≤ 1) : 2 * r + b < M ^ (k + 1) := by
  rw [Nat.pow_succ]
  have : M ^ k * 2 ≤ M ^ k * M := Nat.mul_le_mul_left _ (by unfold M; omega)
  generalize M ^ k * M = P at *
  generalize M ^ k = Q at *
  omega

set_option maxRecDepth 100000 in
set_option maxHeartbeats 8000000 in
theorem refDivide_zero (v u : Value) (xs ys : List Nat) (w : World) (hLa : Lim w.heap.size w v xs) (hLb : Lim w.heap.size w u ys) (hlx : xs.length ≤ 274877906944) (hly : ys.length ≤ 274877906944) (h0 : val ys = 0) :
    Calls Try.prog 43 #[v, u] w fun e W' => e = .returned (.tuple #[.slice none 0 0, .slice none 0 0, .bool false]) ∧ Below w.heap.size w W' := by
  obtain ⟨A, ca, rfl, _⟩ := id hLa
  obtain ⟨B, cb, rfl, _⟩ := id hLb
  have hq := refBits_any _ ys _ hLb (by omega)
  rw [h0, nbits_zero] at hq
  have HQ := Lib.hid hq
  clear hq
  go_enter Try.func43, Try.ntmps43
  go_wp2_with fail
  refine HQ.out.mono ?_
  rintro e W1 ⟨rfl, hB1⟩
  go_wp2
  go_ret3
  exact ⟨rfl, hB1⟩

set_option maxRecDepth 100000 in
set_option maxHeartbeats 8000000 in
theorem refDivide_any (v u : Value) (xs ys : List Nat) (w : World) (hLa : Lim w.heap.size w v xs) (hLb : Lim w.heap.size w u ys) (hlx : xs.length ≤ 274877906944) (hly : ys.length ≤ 274877906944) (h0 : val ys ≠ 0) :
    Calls Try.prog 43 #[v, u] w fun e W' => ∃ vq vr, e = .returned (.tuple #[vq, vr, .bool true]) ∧ Lim W'.heap.size W' vq (limbs (val xs / val ys)) ∧ Lim W'.heap.size W' vr (limbs (val xs % val ys)) ∧ Below w.heap.size w W' := by
  obtain ⟨i0, hi, hz0, hz1, hz2⟩ := info_parts infoU
  have hpos : 0 < val ys := by omega
  obtain ⟨hn1, _⟩ := nbits_ge h0
  have hnx : nbits (val xs) ≤ 64 * xs.length := nbits_val hLa.ok (Nat.le_refl _)
  have hd0 : (((nbits (val ys) : Nat) : Int) == 0) = false := by simp; omega
  have hlb : (limbs (val ys)).length ≤ ys.length := limbs_len (val_lt hLb.ok)
  have HVY := Lib.hid (val_lt hLb.ok)
  have HTOP := Lib.hid (nbits_le.1 (Nat.le_refl (nbits (val xs))))
  obtain ⟨A, ca, rfl, _⟩ := id hLa
  obtain ⟨B, cb, rfl, _⟩ := id hLb
  generalize hnb : nbits (val xs) = nb at *
  have HNB := Lib.hid hnb
  clear hnb h0
  go_enter Try.func43, Try.ntmps43
  go_wp2_with fail
  refine (refBits_any _ ys _ hLb (by omega)).mono ?_
  rintro e W1 ⟨rfl, hB1⟩
  replace hLa := hLa.next hB1
  replace hLb := hLb.next hB1
  go_wp2_with (refine wpList_make_row _ rfl _ _ 28 rfl 32 i0 (.int .u64 0) Try.underlying28 hi hz0 hz1 rfl .i64 .i64 xs.length rfl rfl (by rw [hz2]; omega) (by omega) ?_)
  have hR0 := row_made W1 xs.length
  have hB2 : Below W1.heap.size W1 (W1.alloc (.cells (madeCells #[.int .u64 0] xs.length) 32)) := (Below.refl _ W1).alloc (Nat.le_refl _) _
  have hq := refBits_any _ xs _ (hLa.next hB2) (by omega)
  rw [HNB.out] at hq
  have HQ := Lib.hid hq
  clear hq
  generalize W1.alloc (.cells (madeCells #[.int .u64 0] xs.length) 32) = W2 at *
  refine HQ.out.mono ?_
  rintro e W3 ⟨rfl, hB3⟩
  replace hR0 := hR0.below hB3 hR0.lt
  replace hB3 := hB2.trans (hB3.mono hB2.size)
  clear HQ hB2 hd0
  go_wp2_with fail
  go_loopw [8, 9] (fun rv iv wr => ∃ (c : Nat) (q : Nat → Nat), c ≤ nb ∧ iv = .int .i64 ((c : Int) - 1) ∧ Lim wr.heap.size wr rv (limbs (val xs / 2 ^ c % val ys)) ∧ Row wr W1.heap.size xs.length q ∧ Below W1.heap.size W1 wr ∧
      sm q 0 xs.length = val xs / 2 ^ c / val ys * 2 ^ c)
    (fun _ iv _ => (intOf iv + 1).toNat)
  case atStart =>
    have e : val xs / 2 ^ nb = 0 := Nat.div_eq_of_lt HTOP.out
    refine ⟨nb, fun _ => 0, Nat.le_refl _, congrArg (Value.int .i64) (by omega), ?_, hR0, hB3, ?_⟩
    · rw [e, Nat.zero_mod, limbs_zero]
      exact Lim.nil _ _
    · rw [e, Nat.zero_div, Nat.zero_mul]
      exact sm_nought (fun _ _ => rfl)
  case round =>
    obtain ⟨c, q, hc, rfl, hLr, hRq, hB, hq⟩ := hrel
    clear hR0 hB3
    have HQ := Lib.hid hq
    clear hq
    rcases Nat.eq_zero_or_pos c with rfl | hp
    · rw [show (((0 : Nat) : Int) - 1) = -1 by omega]
      have hWq := hRq.whole xs.length (Nat.le_refl _)
      have hr1 : (limbs (val xs / 2 ^ 0 % val ys)).length ≤ 1099511627777 := by
        have h1 := Nat.mod_lt (val xs / 2 ^ 0) hpos
        have := limbs_len (Nat.lt_trans h1 HVY.out)
        omega
      go_wp2_with fail
      refine (refTrim_any _ _ _ hWq (by rw [upto_length]; omega)).mono ?_
      rintro e W7 ⟨vq, rfl, hLq, hB7⟩
      go_wp2_with fail
      refine (refTrim_any _ _ _ (hLr.next hB7) hr1).mono ?_
      rintro e W8 ⟨vr, rfl, hLr', hB8⟩
      go_wp2
      go_ret3
      rw [val_upto_sm, HQ.out, Nat.pow_zero, Nat.div_one, Nat.mul_one] at hLq
      rw [val_limbs, Nat.pow_zero, Nat.div_one] at hLr'
      exact ⟨vq, vr, rfl, hLq.next hB8, hLr', ((hB1.trans (hB.mono hB1.size)).trans (hB7.mono (Nat.le_trans hB1.size hB.size))).trans (hB8.mono (Nat.le_trans (Nat.le_trans hB1.size hB.size) hB7.size))⟩
    · obtain ⟨k, rfl⟩ : ∃ k, c = k + 1 := ⟨c - 1, by omega⟩
      rw [show (((k + 1 : Nat) : Int) - 1) = (k : Int) by omega]
      have La := hLa.next hB
      have Lb := hLb.next hB
      have hbit := bit_le (val xs) k
      have hg := hRq.lt
      have hrl := Nat.mod_lt (val xs / 2 ^ (k + 1)) hpos
      have hlen0 : (limbs (val xs / 2 ^ (k + 1) % val ys)).length ≤ 1099511627776 := by
        have := limbs_len (Nat.lt_trans hrl HVY.out)
        omega
      have HLEN := Lib.hid (double_len hrl HVY.out hbit)
      clear hrl
      go_wp2_with fail
      refine (refBit_any _ _ xs k _ La (by omega)).mono ?_
      rintro e w' ⟨rfl, rfl⟩
      have hD := refDouble_any _ _ ((bitN (val xs) k : Nat) : Int) wr hLr hlen0 (by omega) (by omega)
      rw [val_limbs, show (((bitN (val xs) k : Nat) : Int) % 2).toNat = bitN (val xs) k by omega] at hD
      have HD := Lib.hid hD
      clear hD
      go_wp2_with fail
      refine HD.out.mono ?_
      rintro e W4 ⟨v4, rfl, L4, hb4⟩
      replace La := La.next hb4
      replace Lb := Lb.next hb4
      replace hRq := hRq.below hb4 hg
      replace hg := hRq.lt
      replace hB := hB.trans (hb4.mono hB.size)
      have hl4 : (limbs (2 * (val xs / 2 ^ (k + 1) % val ys) + bitN (val xs) k)).length ≤ 1099511627776 := by
        have := limbs_len HLEN.out
        omega
      clear hb4 HD hLr
      rcases Nat.lt_or_ge (2 * (val xs / 2 ^ (k + 1) % val ys) + bitN (val xs) k) (val ys) with hs | hs
      · obtain ⟨e1, e2⟩ := bit_no hpos hs
        have HS := Lib.hid hs
        clear hs
        go_wp2_with fail
        refine (refSub_no _ _ _ ys _ L4 Lb hl4 (by omega) (by rw [val_limbs]; exact HS.out)).mono ?_
        rintro e w' ⟨rfl, rfl⟩
        have HQ2 := Lib.hid (HQ.out.trans e2.symm)
        rw [← e1] at L4
        clear e1 e2
        go_wp2_with fail
        go_roundw
        case rel => exact ⟨k, q, by omega, by go_num, L4, hRq, hB, HQ2.out⟩
        case measure => simp [intOf]
      · obtain ⟨e1, e2⟩ := bit_yes hpos hs
        have HS := Lib.hid hs
        clear hs
        go_wp2_with fail
        refine (refSub_fresh _ _ _ ys _ L4 Lb hl4 (by omega) (by rw [val_limbs]; exact HS.out)).mono ?_
        rintro e W5 ⟨v5, rfl, L5, hb5, hf5⟩
        rw [val_limbs, ← e1] at L5
        replace hRq := hRq.below hb5 hg
        replace hB := hB.trans (hb5.mono hB.size)
        have hk64 : k / 64 < xs.length := by omega
        obtain ⟨y, hy⟩ := bit_set hRq.1 hk64 HQ.out
        obtain ⟨hor, hvM⟩ := or_bit (Nat.mod_lt k (by omega)) (hRq.1 (k / 64)) hy
        obtain ⟨vv, hvv⟩ : ∃ vv, vv = q (k / 64) + 2 ^ (k % 64) := ⟨_, rfl⟩
        rw [← hvv] at hor hvM
        have HVV := Lib.hid hvv
        have HE2 := Lib.hid e2
        clear hy hvv e1 e2
        have hcs := hRq.cell (j := k / 64) hk64
        have hfz := hRq.frozen (k / 64)
        have j0 : (k : Int) ≤ 9223372036854775807 := by omega
        have j1 : (k : Int) / 64 < (xs.length : Int) := by omega
        go_wp2_with fail
        go_roundw
        case rel =>
          refine ⟨k, upd q (k / 64) vv, by omega, rfl, (L5.set_off hf5 hg (k / 64) _).mono (Nat.le_of_eq (by simp [World.setCell])), hRq.set _ hvM, hB.setCell (p := ⟨W1.heap.size, k / 64, none⟩) (Nat.le_refl _) _, ?_⟩
          rw [sm_set hk64 HVV.out, two_place, HQ.out]
          exact HE2.out.symm
        case measure => simp [intOf]

end Go.Proofs.Ytilbkfgbbajelaa
