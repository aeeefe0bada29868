/- lodgelaw06.raised answers the text of what a number to a power leaves of a small prime. Conditions: the group's prime is at most 2039, the number below it, neither it nor the power nought, the power at most 2039. -/
import Derived.Test.YtilbkfgbbajelaaAwake6
namespace Go.Proofs.Ytilbkfgbbajelaa
open Go.RowKit Go.Shelf Num
set_option linter.unusedVariables false

theorem mod_nat (n p : Nat) : ((n : Nat) : Int) % ((p : Nat) : Int) = (((n % p : Nat)) : Int) := rfl
theorem prod_le {x y p : Nat} (hx : x < p) (hy : y < p) : x * y ≤ p * p := Nat.mul_le_mul (by omega) (by omega)
theorem refTo_small (x : Nat) (w : World) (hx : x ≤ 99999) : Calls Try.prog 22 #[.slice (some ⟨w.heap.size, 0, none⟩) 1 1] (w.alloc (.cells #[.int .u64 (x : Int)] 32)) fun e W' => e = .returned (.string (txt x)) ∧ Below w.heap.size w W' := by
  refine (refTo_any _ [x] _ (lim_lit1 w x (under hx)) (by simp)).mono ?_
  rintro e W ⟨rfl, hb⟩
  rw [val_1n, ← txt_is]
  exact ⟨rfl, (al1 (Below.refl _ w) _).trans (hb.mono (al1 (Below.refl _ w) _).size)⟩

set_option maxRecDepth 100000 in
set_option maxHeartbeats 2000000 in
theorem raised0_any (x ex : Nat) (s t : ByteArray) (w : World) (hx : bval s.data.toList = x) (hx0 : x ≠ 0) (hxl : x < 23) (he : bval t.data.toList = ex) (he0 : ex ≠ 0) (hel : ex < 2039) (hs : s.size ≤ 4000) (ht : t.size ≤ 4000) :
    Calls Try.prog 25 #[.int .i64 0, .string s, .string t] w fun e W => e = .returned (.string (txt (pm x ex 23))) ∧ Below w.heap.size w W := by
  have HP := Lib.hid (show limbs (P 0) = [23] by rw [P_0]; exact limbs_1 (by omega) (by omega))
  have HX := Lib.hid (show limbs (bval s.data.toList) = [x] by rw [hx]; exact limbs_1 hx0 (by omega))
  have HE := Lib.hid (show limbs (bval t.data.toList) = [ex] by rw [he]; exact limbs_1 he0 (by omega))
  clear hx he
  go_enter Try.func25, Try.ntmps25
  have B := Below.refl w.heap.size w
  go_wp2_with fail
  refine (refPrime_any 0 _).mono ?_
  rintro e W1 ⟨va, rfl, La, hb⟩
  rw [HP.out] at La
  replace B := B.trans (hb.mono B.size)
  clear hb
  obtain ⟨b1, o1, c1, rfl, _, hb1, _⟩ := La.at_ (by simp)
  go_wp2_with fail
  refine (refFrom_any s _ (by omega)).mono ?_
  rintro e W2 ⟨vb, rfl, Lb, hb⟩
  rw [HX.out] at Lb
  replace La := La.next hb
  replace B := B.trans (hb.mono B.size)
  clear hb
  obtain ⟨b2, o2, c2, rfl, _, hb2, _⟩ := Lb.at_ (by simp)
  go_wp2_with fail
  refine (refFrom_any t _ (by omega)).mono ?_
  rintro e W3 ⟨vc, rfl, Lc, hb⟩
  rw [HE.out] at Lc
  replace La := La.next hb
  replace Lb := Lb.next hb
  replace B := B.trans (hb.mono B.size)
  clear hb
  obtain ⟨b3, o3, c3, rfl, _, hb3, _⟩ := Lc.at_ (by simp)
  have g1 : W3.cell? ⟨b1, o1, none⟩ = some (.int .u64 23) := by
    obtain ⟨q1, q2, q3, hq, _, _, h⟩ := La.at_ (by simp)
    cases hq
    exact h 0 (by simp)
  have g2 : W3.cell? ⟨b2, o2, none⟩ = some (.int .u64 (x : Int)) := by
    obtain ⟨q1, q2, q3, hq, _, _, h⟩ := Lb.at_ (by simp)
    cases hq
    exact h 0 (by simp)
  have g3 : W3.cell? ⟨b3, o3, none⟩ = some (.int .u64 (ex : Int)) := by
    obtain ⟨q1, q2, q3, hq, _, _, h⟩ := Lc.at_ (by simp)
    cases hq
    exact h 0 (by simp)
  have k1 : b1 < W3.heap.size := by
    obtain ⟨q1, q2, q3, hq, _, h, _⟩ := La.at_ (by simp)
    cases hq
    exact h
  have k2 : b2 < W3.heap.size := by
    obtain ⟨q1, q2, q3, hq, _, h, _⟩ := Lb.at_ (by simp)
    cases hq
    exact h
  have k3 : b3 < W3.heap.size := by
    obtain ⟨q1, q2, q3, hq, _, h, _⟩ := Lc.at_ (by simp)
    cases hq
    exact h
  clear La Lb Lc hb1 hb2
  try clear hb3
  go_wp2_with fail
  go_loopw [8, 11] (fun n i wr => ∃ (k z : Nat), k ≤ ex ∧ i = .int .u64 (k : Int) ∧ n = .int .u64 (z : Int) ∧ z = pm x k 23 ∧ Below W3.heap.size W3 wr)
    (fun _ i _ => ex - (intOf i).toNat)
  case atStart => exact ⟨0, 1, by omega, rfl, rfl, by rw [pm_zero], Below.refl _ _⟩
  case round =>
    obtain ⟨k, z, hk, rfl, rfl, hz, hB⟩ := hrel
    have hzp : z < 23 := by rw [hz]; exact pm_lt _ _ (by omega)
    have HZ := Lib.hid hz
    clear hz
    have f1 := (hB.cell (p := ⟨b1, o1, none⟩) k1).trans g1
    have f2 := (hB.cell (p := ⟨b2, o2, none⟩) k2).trans g2
    have f3 := (hB.cell (p := ⟨b3, o3, none⟩) k3).trans g3
    by_cases hlt : k < ex
    · have hd : decide ((k : Int) < (ex : Int)) = true := by simpa using (by omega : (k : Int) < (ex : Int))
      have hd2 : decide ((k : Int) < 2039) = true := by simpa using (by omega : (k : Int) < 2039)
      have hml := prod_le hzp hxl
      have hx1 : ((x : Nat) : Int) % 23 = ((x : Nat) : Int) := by omega
      have hm : ((z : Nat) : Int) * ((x : Nat) : Int) = ((z * x : Nat) : Int) := (Int.natCast_mul z x).symm
      have hmz : ((z * x : Nat) : Int) % 23 = ((z * x % 23 : Nat) : Int) := mod_nat _ _
      have HN := Lib.hid (show z * x % 23 = pm x (k + 1) 23 by rw [pm_succ, HZ.out])
      have hzq := Nat.mod_lt (z * x) (show 23 > 0 by omega)
      generalize z * x % 23 = z2 at *
      generalize z * x = m at *
      go_wp2_with fail
      go_region
      rw [hmz]
      go_wp2_with fail
      go_roundw
      case rel => exact ⟨k + 1, z2, by omega, by go_num, by first | rfl | go_num, HN.out, by first | exact hB | exact hB.drew | exact hB.drew.drew⟩
      case measure => simp [intOf]; omega
    · have hke : k = ex := by omega
      have hd : decide ((k : Int) < (ex : Int)) = false := by simpa using (by omega : (ex : Int) ≤ (k : Int))
      have HF := Lib.hid (show txt z = txt (pm x ex 23) by rw [HZ.out, hke])
      replace B := B.trans (hB.mono B.size)
      clear hke
      go_wp2_with fail
      refine (refTo_small z _ (by omega)).mono ?_
      rintro e W4 ⟨rfl, hb⟩
      go_wp2
      go_ret
      refine ⟨congrArg (fun t => Ending.returned (.string t)) HF.out, ?_⟩
      first | exact B.trans (hb.mono B.size) | exact B.drew.trans (hb.mono B.drew.size)

set_option maxRecDepth 100000 in
set_option maxHeartbeats 2000000 in
theorem raised1_any (x ex : Nat) (s t : ByteArray) (w : World) (hx : bval s.data.toList = x) (hx0 : x ≠ 0) (hxl : x < 2039) (he : bval t.data.toList = ex) (he0 : ex ≠ 0) (hel : ex < 2039) (hs : s.size ≤ 4000) (ht : t.size ≤ 4000) :
    Calls Try.prog 25 #[.int .i64 1, .string s, .string t] w fun e W => e = .returned (.string (txt (pm x ex 2039))) ∧ Below w.heap.size w W := by
  have HP := Lib.hid (show limbs (P 1) = [2039] by rw [P_1]; exact limbs_1 (by omega) (by omega))
  have HX := Lib.hid (show limbs (bval s.data.toList) = [x] by rw [hx]; exact limbs_1 hx0 (by omega))
  have HE := Lib.hid (show limbs (bval t.data.toList) = [ex] by rw [he]; exact limbs_1 he0 (by omega))
  clear hx he
  go_enter Try.func25, Try.ntmps25
  have B := Below.refl w.heap.size w
  go_wp2_with fail
  refine (refPrime_any 1 _).mono ?_
  rintro e W1 ⟨va, rfl, La, hb⟩
  rw [HP.out] at La
  replace B := B.trans (hb.mono B.size)
  clear hb
  obtain ⟨b1, o1, c1, rfl, _, hb1, _⟩ := La.at_ (by simp)
  go_wp2_with fail
  refine (refFrom_any s _ (by omega)).mono ?_
  rintro e W2 ⟨vb, rfl, Lb, hb⟩
  rw [HX.out] at Lb
  replace La := La.next hb
  replace B := B.trans (hb.mono B.size)
  clear hb
  obtain ⟨b2, o2, c2, rfl, _, hb2, _⟩ := Lb.at_ (by simp)
  go_wp2_with fail
  refine (refFrom_any t _ (by omega)).mono ?_
  rintro e W3 ⟨vc, rfl, Lc, hb⟩
  rw [HE.out] at Lc
  replace La := La.next hb
  replace Lb := Lb.next hb
  replace B := B.trans (hb.mono B.size)
  clear hb
  obtain ⟨b3, o3, c3, rfl, _, hb3, _⟩ := Lc.at_ (by simp)
  have g1 : W3.cell? ⟨b1, o1, none⟩ = some (.int .u64 2039) := by
    obtain ⟨q1, q2, q3, hq, _, _, h⟩ := La.at_ (by simp)
    cases hq
    exact h 0 (by simp)
  have g2 : W3.cell? ⟨b2, o2, none⟩ = some (.int .u64 (x : Int)) := by
    obtain ⟨q1, q2, q3, hq, _, _, h⟩ := Lb.at_ (by simp)
    cases hq
    exact h 0 (by simp)
  have g3 : W3.cell? ⟨b3, o3, none⟩ = some (.int .u64 (ex : Int)) := by
    obtain ⟨q1, q2, q3, hq, _, _, h⟩ := Lc.at_ (by simp)
    cases hq
    exact h 0 (by simp)
  have k1 : b1 < W3.heap.size := by
    obtain ⟨q1, q2, q3, hq, _, h, _⟩ := La.at_ (by simp)
    cases hq
    exact h
  have k2 : b2 < W3.heap.size := by
    obtain ⟨q1, q2, q3, hq, _, h, _⟩ := Lb.at_ (by simp)
    cases hq
    exact h
  have k3 : b3 < W3.heap.size := by
    obtain ⟨q1, q2, q3, hq, _, h, _⟩ := Lc.at_ (by simp)
    cases hq
    exact h
  clear La Lb Lc hb1 hb2
  try clear hb3
  go_wp2_with fail
  go_loopw [8, 11] (fun n i wr => ∃ (k z : Nat), k ≤ ex ∧ i = .int .u64 (k : Int) ∧ n = .int .u64 (z : Int) ∧ z = pm x k 2039 ∧ Below W3.heap.size W3 wr)
    (fun _ i _ => ex - (intOf i).toNat)
  case atStart => exact ⟨0, 1, by omega, rfl, rfl, by rw [pm_zero], Below.refl _ _⟩
  case round =>
    obtain ⟨k, z, hk, rfl, rfl, hz, hB⟩ := hrel
    have hzp : z < 2039 := by rw [hz]; exact pm_lt _ _ (by omega)
    have HZ := Lib.hid hz
    clear hz
    have f1 := (hB.cell (p := ⟨b1, o1, none⟩) k1).trans g1
    have f2 := (hB.cell (p := ⟨b2, o2, none⟩) k2).trans g2
    have f3 := (hB.cell (p := ⟨b3, o3, none⟩) k3).trans g3
    by_cases hlt : k < ex
    · have hd : decide ((k : Int) < (ex : Int)) = true := by simpa using (by omega : (k : Int) < (ex : Int))
      have hd2 : decide ((k : Int) < 2039) = true := by simpa using (by omega : (k : Int) < 2039)
      have hml := prod_le hzp hxl
      have hx1 : ((x : Nat) : Int) % 2039 = ((x : Nat) : Int) := by omega
      have hm : ((z : Nat) : Int) * ((x : Nat) : Int) = ((z * x : Nat) : Int) := (Int.natCast_mul z x).symm
      have hmz : ((z * x : Nat) : Int) % 2039 = ((z * x % 2039 : Nat) : Int) := mod_nat _ _
      have HN := Lib.hid (show z * x % 2039 = pm x (k + 1) 2039 by rw [pm_succ, HZ.out])
      have hzq := Nat.mod_lt (z * x) (show 2039 > 0 by omega)
      generalize z * x % 2039 = z2 at *
      generalize z * x = m at *
      go_wp2_with fail
      go_region
      rw [hmz]
      go_wp2_with fail
      go_roundw
      case rel => exact ⟨k + 1, z2, by omega, by go_num, by first | rfl | go_num, HN.out, by first | exact hB | exact hB.drew | exact hB.drew.drew⟩
      case measure => simp [intOf]; omega
    · have hke : k = ex := by omega
      have hd : decide ((k : Int) < (ex : Int)) = false := by simpa using (by omega : (ex : Int) ≤ (k : Int))
      have HF := Lib.hid (show txt z = txt (pm x ex 2039) by rw [HZ.out, hke])
      replace B := B.trans (hB.mono B.size)
      clear hke
      go_wp2_with fail
      refine (refTo_small z _ (by omega)).mono ?_
      rintro e W4 ⟨rfl, hb⟩
      go_wp2
      go_ret
      refine ⟨congrArg (fun t => Ending.returned (.string t)) HF.out, ?_⟩
      first | exact B.trans (hb.mono B.size) | exact B.drew.trans (hb.mono B.drew.size)


end Go.Proofs.Ytilbkfgbbajelaa
