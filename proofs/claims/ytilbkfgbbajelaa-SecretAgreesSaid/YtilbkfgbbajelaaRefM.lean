/- lodgeref04's Rest, Times and Power: the document's answers of layer 4. Conditions: the slices read as limbs; lengths below 2^35. -/
import Derived.Test.YtilbkfgbbajelaaModQ
import Derived.Test.YtilbkfgbbajelaaRefMul
import Derived.Test.YtilbkfgbbajelaaRefDiv
import Derived.Test.YtilbkfgbbajelaaSame
namespace Go.Proofs.Ytilbkfgbbajelaa
open Go.RowKit Go.Shelf Num
set_option linter.unusedVariables false

set_option maxRecDepth 100000 in
set_option maxHeartbeats 4000000 in
theorem refRest_zero (v u : Value) (xs ys : List Nat) (w : World) (hLa : Lim w.heap.size w v xs) (hLb : Lim w.heap.size w u ys) (hlx : xs.length ≤ 274877906944) (hly : ys.length ≤ 274877906944) (h0 : val ys = 0) :
    Calls Try.prog 37 #[v, u] w (GivesNo w) := by
  have HD := Lib.hid (refDivide_zero v u xs ys w hLa hLb hlx hly h0)
  obtain ⟨A, ca, rfl, _⟩ := id hLa
  obtain ⟨B, cb, rfl, _⟩ := id hLb
  go_enter Try.func37, Try.ntmps37
  go_wp2_with fail
  refine HD.out.mono ?_
  rintro e W1 ⟨rfl, hB⟩
  go_wp2
  go_ret2
  exact ⟨rfl, hB⟩

set_option maxRecDepth 100000 in
set_option maxHeartbeats 4000000 in
theorem refRest_any (v u : Value) (xs ys : List Nat) (w : World) (hLa : Lim w.heap.size w v xs) (hLb : Lim w.heap.size w u ys) (hlx : xs.length ≤ 274877906944) (hly : ys.length ≤ 274877906944) (h0 : val ys ≠ 0) :
    Calls Try.prog 37 #[v, u] w (GivesOk (val xs % val ys) w) := by
  have HD := Lib.hid (refDivide_any v u xs ys w hLa hLb hlx hly h0)
  obtain ⟨A, ca, rfl, _⟩ := id hLa
  obtain ⟨B, cb, rfl, _⟩ := id hLb
  go_enter Try.func37, Try.ntmps37
  go_wp2_with fail
  refine HD.out.mono ?_
  rintro e W1 ⟨vq, vr, rfl, _, hLr, hB⟩
  go_wp2
  go_ret2
  exact ⟨vr, rfl, hLr, hB⟩

theorem mul_len {xs ys : List Nat} (hx : Ok xs) (hy : Ok ys) : (limbs (val xs * val ys)).length ≤ xs.length + ys.length := by
  refine limbs_len ?_
  rw [Nat.pow_add]
  exact Nat.mul_lt_mul'' (val_lt hx) (val_lt hy)

set_option maxRecDepth 100000 in
set_option maxHeartbeats 4000000 in
theorem refTimes_zero (v u z : Value) (xs ys zs : List Nat) (w : World) (hLa : Lim w.heap.size w v xs) (hLb : Lim w.heap.size w u ys) (hLc : Lim w.heap.size w z zs) (hlx : xs.length ≤ 137438953472) (hly : ys.length ≤ 137438953472) (hlz : zs.length ≤ 137438953472) (h0 : val zs = 0) :
    Calls Try.prog 59 #[v, u, z] w (GivesNo w) := by
  have HD := Lib.hid (refMul_any v u xs ys w hLa hLb (by omega) (by omega))
  have hl := mul_len hLa.ok hLb.ok
  obtain ⟨A, ca, rfl, _⟩ := id hLa
  obtain ⟨B, cb, rfl, _⟩ := id hLb
  obtain ⟨C, cc, rfl, _⟩ := id hLc
  go_enter Try.func59, Try.ntmps59
  go_wp2_with fail
  refine HD.out.mono ?_
  rintro e W1 ⟨r1, rfl, L1, hB1⟩
  go_wp2_with fail
  refine (refRest_zero r1 _ _ zs W1 L1 (hLc.next hB1) (by omega) (by omega) h0).mono ?_
  rintro e W2 ⟨rfl, hB2⟩
  go_wp2
  go_ret2
  exact ⟨rfl, hB1.trans (hB2.mono hB1.size)⟩

set_option maxRecDepth 100000 in
set_option maxHeartbeats 4000000 in
theorem refTimes_any (v u z : Value) (xs ys zs : List Nat) (w : World) (hLa : Lim w.heap.size w v xs) (hLb : Lim w.heap.size w u ys) (hLc : Lim w.heap.size w z zs) (hlx : xs.length ≤ 137438953472) (hly : ys.length ≤ 137438953472) (hlz : zs.length ≤ 137438953472) (h0 : val zs ≠ 0) :
    Calls Try.prog 59 #[v, u, z] w (GivesOk (val xs * val ys % val zs) w) := by
  have HD := Lib.hid (refMul_any v u xs ys w hLa hLb (by omega) (by omega))
  have hl := mul_len hLa.ok hLb.ok
  obtain ⟨A, ca, rfl, _⟩ := id hLa
  obtain ⟨B, cb, rfl, _⟩ := id hLb
  obtain ⟨C, cc, rfl, _⟩ := id hLc
  go_enter Try.func59, Try.ntmps59
  go_wp2_with fail
  refine HD.out.mono ?_
  rintro e W1 ⟨r1, rfl, L1, hB1⟩
  go_wp2_with fail
  refine (refRest_any r1 _ _ zs W1 L1 (hLc.next hB1) (by omega) (by omega) h0).mono ?_
  rintro e W2 ⟨r2, rfl, L2, hB2⟩
  rw [val_limbs] at L2
  go_wp2
  go_ret2
  exact ⟨r2, rfl, L2, hB1.trans (hB2.mono hB1.size)⟩

set_option maxRecDepth 100000 in
set_option maxHeartbeats 4000000 in
theorem refPower_zero (va ve vm : Value) (az es ms : List Nat) (w : World) (hLa : Lim w.heap.size w va az) (hLe : Lim w.heap.size w ve es) (hLm : Lim w.heap.size w vm ms)
    (hla : az.length ≤ 34359738368) (hle : es.length ≤ 34359738368) (hlm : ms.length ≤ 34359738368) (h0 : val ms = 0) :
    Calls Try.prog 39 #[va, ve, vm] w (GivesNo w) := by
  have K := refRest_zero _ vm [1] ms _ (lim_lit1 w 1 (small_ok (by omega))) (hLm.alloc _) (by simp) (by omega) h0
  have HK := Lib.hid K
  clear K
  obtain ⟨A, ca, rfl, _⟩ := id hLa
  obtain ⟨B, cb, rfl, _⟩ := id hLe
  obtain ⟨C, cc, rfl, _⟩ := id hLm
  go_enter Try.func39, Try.ntmps39
  go_wp2_with fail
  refine HK.out.mono ?_
  rintro e W1 ⟨rfl, hB⟩
  go_wp2
  go_ret2
  exact ⟨rfl, ((Below.refl _ w).alloc (Nat.le_refl _) _).trans (hB.mono (by simp))⟩

set_option maxRecDepth 100000 in
set_option maxHeartbeats 4000000 in
theorem refPower_any (va ve vm : Value) (az es ms : List Nat) (w : World) (hLa : Lim w.heap.size w va az) (hLe : Lim w.heap.size w ve es) (hLm : Lim w.heap.size w vm ms)
    (hla : az.length ≤ 34359738368) (hle : es.length ≤ 34359738368) (hlm : ms.length ≤ 34359738368) (h0 : val ms ≠ 0) :
    Calls Try.prog 39 #[va, ve, vm] w (GivesOk (pm (val az) (val es) (val ms)) w) := by
  have K := refRest_any _ vm [1] ms _ (lim_lit1 w 1 (small_ok (by omega))) (hLm.alloc _) (by simp) (by omega) h0
  rw [show val [1] = 1 from rfl, ← pm_zero (val az)] at K
  have HK := Lib.hid K
  clear K
  have hnb := nbits_len hLe.ok
  have hlen : ∀ k, (limbs (pm (val az) k (val ms))).length ≤ ms.length := fun k => limbs_len (Nat.lt_trans (pm_lt _ _ (by omega)) (val_lt hLm.ok))
  have HLEN := Lib.hid hlen
  clear hlen
  obtain ⟨A, ca, rfl, _⟩ := id hLa
  obtain ⟨B, cb, rfl, _⟩ := id hLe
  obtain ⟨C, cc, rfl, _⟩ := id hLm
  go_enter Try.func39, Try.ntmps39
  go_wp2_with fail
  refine HK.out.mono ?_
  rintro e W1 ⟨r1, rfl, L1, hB1⟩
  have hBw : Below w.heap.size w W1 := ((Below.refl _ w).alloc (Nat.le_refl _) _).trans (hB1.mono (by simp))
  clear HK hB1
  go_wp2_with fail
  refine (refBits_any _ es W1 (hLe.next hBw) (by omega)).mono ?_
  rintro e W2 ⟨rfl, hB2⟩
  replace L1 := L1.next hB2
  have hBw2 := hBw.trans (hB2.mono hBw.size)
  clear hBw hB2
  rw [show 0 = val es / 2 ^ nbits (val es) from (half_top _).symm] at L1
  generalize hN : nbits (val es) = N at *
  go_wp2
  go_loopw [8, 10] (fun p i wr => ∃ (c : Nat), c ≤ N ∧ i = .int .i64 ((c : Int) - 1) ∧ Lim wr.heap.size wr p (limbs (pm (val az) (val es / 2 ^ c) (val ms))) ∧ Below w.heap.size w wr)
    (fun _ i _ => (intOf i + 1).toNat)
  case atStart => exact ⟨N, Nat.le_refl _, rfl, L1, hBw2⟩
  case round =>
    obtain ⟨c, hc, rfl, hLp, hB⟩ := hrel
    rcases Nat.eq_zero_or_pos c with rfl | hp
    · have hd : decide (0 ≤ (((0 : Nat) : Int) - 1)) = false := by simp
      rw [half_zero] at hLp
      go_wp2
      go_ret2
      exact ⟨_, rfl, hLp, hB⟩
    · obtain ⟨j, rfl⟩ : ∃ j, c = j + 1 := ⟨c - 1, by omega⟩
      rw [show (((j + 1 : Nat) : Int) - 1) = (j : Int) by omega]
      have hd : decide (0 ≤ (j : Int)) = true := by simp
      have hl1 := HLEN.out (val es / 2 ^ (j + 1))
      have K1 := refTimes_any _ _ _ _ _ ms wr hLp hLp (hLm.next hB) (by omega) (by omega) (by omega) h0
      rw [val_limbs, ← pm_add] at K1
      have HK1 := Lib.hid K1
      clear K1
      obtain ⟨P, cp, rfl, _⟩ := id hLp
      go_wp2_with fail
      refine HK1.out.mono ?_
      rintro e W2 ⟨r2, rfl, L2, hB2⟩
      have hB12 := hB.trans (hB2.mono hB.size)
      clear HK1
      have hst := half_step (val es) j
      have K2 := refBit_any W2.heap.size (.slice B es.length cb) es j W2 ((hLe.next hB).next hB2) (by omega)
      rcases (show bitN (val es) j = 0 ∨ bitN (val es) j = 1 by have := bitN_le (val es) j; omega) with hbit | hbit
      · rw [hbit] at K2 hst
        have HST := Lib.hid hst
        have HK2 := Lib.hid K2
        clear K2 hst
        go_wp2_with fail
        refine HK2.out.mono ?_
        rintro e W3 ⟨rfl, rfl⟩
        go_wp2_with fail
        go_roundw
        case rel =>
          refine ⟨j, by omega, by go_num, ?_, hB12⟩
          have e := HST.out
          rw [Nat.add_zero] at e
          rw [e]
          exact L2
        case measure => simp [intOf]
      · rw [hbit] at K2 hst
        have HST := Lib.hid hst
        have HK2 := Lib.hid K2
        have hl2 := HLEN.out (val es / 2 ^ (j + 1) + val es / 2 ^ (j + 1))
        have K3 := refTimes_any r2 _ _ _ az ms W2 L2 ((hLa.next hB).next hB2) ((hLm.next hB).next hB2) (by omega) (by omega) (by omega) h0
        rw [val_limbs, ← pm_succ] at K3
        have HK3 := Lib.hid K3
        clear K2 hst K3
        obtain ⟨P2, cp2, rfl, _⟩ := id L2
        go_wp2_with fail
        refine HK2.out.mono ?_
        rintro e W3 ⟨rfl, rfl⟩
        go_wp2_with fail
        refine HK3.out.mono ?_
        rintro e W4 ⟨r4, rfl, L4, hB4⟩
        go_wp2_with fail
        go_roundw
        case rel =>
          refine ⟨j, by omega, by go_num, ?_, hB12.trans (hB4.mono hB12.size)⟩
          rw [HST.out]
          exact L4
        case measure => simp [intOf]

end Go.Proofs.Ytilbkfgbbajelaa
