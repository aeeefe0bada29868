/- lodgelaw12.GraftLow answers true, whatever number comes in, and leaves memory below as it was. No condition. -/
import Derived.Test.YtokhaldnakjiaaaAwake12
import Derived.Test.YtokhaldnakjiaaaGraD
namespace Go.Proofs.Ytokhaldnakjiaaa
open Go Go.RowKit
set_option linter.unusedVariables false

/-- Members that came one by one. -/
def lowT : Nat → Option Tr
  | 0 => none
  | i + 1 => graftO (lowT i) (some (.leaf ((i % 8 : Nat) : Int) ((1 + i / 8 : Nat) : Int)))
def lowOk (k : Nat) : Bool := okT (spo (lowT k)) && decide (htO (lowT k) ≤ 5)
def lowAt (k j : Nat) : Bool := decide (2 ^ j ≤ k) || (decide (j ≠ 0) && decide (k < 2 ^ (j - 1))) || decide (htO (lowT k) = (j : Int) - 1 + if decide (1 < k) && decide (k &&& (k - 1) ≠ 0) then 1 else 0)
theorem low_all : (List.range 30).all (fun k => lowOk k && (List.range 7).all (lowAt k)) = true := by decide +kernel
theorem low_ok {k : Nat} (h : k < 30) : okT (spo (lowT k)) = true ∧ htO (lowT k) ≤ 5 := by
  have := List.all_eq_true.1 low_all k (List.mem_range.2 h)
  simp only [Bool.and_eq_true] at this
  simpa [lowOk] using this.1
theorem low_at {k j : Nat} (h : k < 30) (hj : j < 7) (h1 : k < 2 ^ j) (h2 : j = 0 ∨ 2 ^ (j - 1) ≤ k) : htO (lowT k) = (j : Int) - 1 + if decide (1 < k) && decide (k &&& (k - 1) ≠ 0) then 1 else 0 := by
  have := List.all_eq_true.1 low_all k (List.mem_range.2 h)
  simp only [Bool.and_eq_true] at this
  have h3 := List.all_eq_true.1 this.2 j (List.mem_range.2 hj)
  unfold lowAt at h3
  simp only [Bool.or_eq_true, Bool.and_eq_true, decide_eq_true_eq] at h3
  rcases h3 with (h3 | ⟨h3, h4⟩) | h3
  · omega
  · rcases h2 with h2 | h2
    · exact absurd h2 h3
    · omega
  · simpa using h3
theorem low_leaf {i : Nat} (h : i < 30) : okT (spo (some (.leaf ((i % 8 : Nat) : Int) ((1 + i / 8 : Nat) : Int)))) = true := by
  have : (List.range 30).all (fun i => okT (spo (some (.leaf ((i % 8 : Nat) : Int) ((1 + i / 8 : Nat) : Int))))) = true := by decide +kernel
  exact List.all_eq_true.1 this i (List.mem_range.2 h)
theorem and_nat {a b : Nat} (ha : a < 1000) (hb : b < 1000) : bits .and .i64 (a : Int) (b : Int) = ((a &&& b : Nat) : Int) := by
  show IntKind.i64.wrap ((BitVec.ofInt 64 (a : Int) &&& BitVec.ofInt 64 (b : Int)).toNat : Int) = _
  have e1 : (BitVec.ofInt 64 (a : Int)).toNat = a := by rw [BitVec.toNat_ofInt]; omega
  have e2 : (BitVec.ofInt 64 (b : Int)).toNat = b := by rw [BitVec.toNat_ofInt]; omega
  have h3 : a &&& b ≤ a := Nat.and_le_left
  rw [BitVec.toNat_and, e1, e2, IntKind.wrap_i64]
  omega

set_option maxRecDepth 100000 in
set_option maxHeartbeats 8000000 in
theorem graftLow_walk (n : Int) (w : World) (hn : (Lit.int .u8 n).wf = true) :
    Calls Try.prog 5 #[.int .u8 n] w fun e w' => e = .returned (.bool true) ∧ Below w.heap.size w w' := by
  have hx : 0 ≤ n ∧ n ≤ 255 := by simpa [Lit.wf, IntKind.min, IntKind.max, IntKind.signed, IntKind.bits] using hn
  obtain ⟨k, hk⟩ : ∃ k : Nat, n % 30 = (k : Int) := ⟨(n % 30).toNat, by omega⟩
  have hk30 : k < 30 := by omega
  have hk' : Int.tmod n 30 = (k : Int) := by rw [Int.tmod_eq_emod_of_nonneg hx.1]; exact hk
  go_enter Try.func5, Try.ntmps5
  go_wp2_with fail
  clear hk hk' hx hn
  go_loopw [3, 5] (fun lv9 iv wr => ∃ (i : Nat) (wq : World) (vq : Value), wq = wr ∧ vq = lv9 ∧ i ≤ k ∧ iv = .int .i64 (i : Int) ∧ Spots wr.heap.size wr (spo (lowT i)) [lv9] ∧ Below w.heap.size w wr) (fun _ iv _ => k - (intOf iv).toNat)
  case atStart => exact ⟨0, _, _, rfl, rfl, Nat.zero_le _, rfl, own_spots (World.ownsRow_nil _ w.heap.size _ _), Below.refl _ _⟩
  case round =>
    obtain ⟨i, wr, lv9, rfl, rfl, hi, rfl, hl, B⟩ := hrel
    obtain ⟨AL, cl, rfl, -, -, -⟩ := spots_at hl
    have HL := Lib.hid hl
    clear hl
    by_cases hik : i < k
    · have hd : decide (i < k) = true := decide_eq_true hik
      have HO := Lib.hid (low_ok (k := i) (by omega))
      have HO1 := Lib.hid (low_ok (k := i + 1) (by omega))
      have HLF := Lib.hid (low_leaf (i := i) (by omega))
      obtain ⟨q, hq⟩ : ∃ q : Int, (i : Int) / 8 = q := ⟨_, rfl⟩
      obtain ⟨m, hm⟩ : ∃ m : Int, (i : Int) % 8 = m := ⟨_, rfl⟩
      have hq0 : 0 ≤ q := by omega
      have hq1 : q ≤ 10 := by omega
      have HQ : Hid (((i % 8 : Nat) : Int) = m ∧ ((1 + i / 8 : Nat) : Int) = 1 + q) := Lib.hid ⟨by omega, by omega⟩
      have HGO : Hid (lowT (i + 1) = graftO (lowT i) (some (.leaf m (1 + q)))) := Lib.hid (by rw [← HQ.out.1, ← HQ.out.2]; rfl)
      rw [HQ.out.1, HQ.out.2] at HLF
      have hmod : Int.tmod (i : Int) 8 = m := by rw [Int.tmod_eq_emod_of_nonneg (by omega)]; exact hm
      go_wp2_with fail
      refine (refLeaf_any m (1 + q) wr).mono ?_
      rintro e w1 ⟨vf, rfl, hf, hb⟩
      have HF : Hid (Spots w1.heap.size w1 (spo (some (.leaf m (1 + q)))) [vf]) := Lib.hid hf
      replace HL := Lib.hid (keeps_spots _ _ _ _ _ _ HL.out hb hb.size)
      replace B := B.trans (hb.mono B.size)
      clear hf hb
      go_wp2_with fail
      refine (gGraft_any _ vf (lowT i) (some (.leaf m (1 + q))) w1 HL.out HF.out HO.out.1 HLF.out (by have := HO.out.2; omega) (show (0 : Int) ≤ 60 by decide) (by rw [← HGO.out]; exact HO1.out.1)).mono ?_
      rintro e w2 ⟨vg, rfl, hg, hb⟩
      rw [← HGO.out] at hg
      have HG := Lib.hid hg
      replace B := B.trans (hb.mono B.size)
      clear hb hg
      go_wp2
      go_roundw
      case rel => exact ⟨i + 1, _, _, rfl, rfl, by omega, by go_num, HG.out, B⟩
      case measure => simp [intOf]; omega
    · have hd : decide (i < k) = false := decide_eq_false hik
      obtain rfl : i = k := by omega
      go_wp2_with fail
      go_loopw [6, 7] (fun lw iv wz => ∃ (j : Nat) (wq : World), wq = wz ∧ j < 7 ∧ lw = .int .i64 ((j : Int) - 1) ∧ iv = .int .i64 ((2 ^ j : Nat) : Int) ∧ Hid (j = 0 ∨ 2 ^ (j - 1) ≤ i) ∧ Below w.heap.size w wz ∧ Spots wz.heap.size wz (spo (lowT i)) [.slice AL (spo (lowT i)).length cl]) (fun _ iv _ => 200 - (intOf iv).toNat)
      case atStart => exact ⟨0, _, rfl, by decide, rfl, rfl, Lib.hid (Or.inl rfl), B, HL.out⟩
      case round =>
        clear B HL
        obtain ⟨j, wz, rfl, hj, rfl, rfl, HJ, B, hl⟩ := hrel
        have HL := Lib.hid hl
        clear hl
        obtain ⟨P, hP⟩ : ∃ P, 2 ^ j = P := ⟨_, rfl⟩
        rw [hP]
        have hP1 : P ≤ 64 := by rw [← hP]; exact Nat.le_trans (Nat.pow_le_pow_right (by omega) (show j ≤ 6 by omega)) (by decide)
        have hP0 : 0 < P := by rw [← hP]; exact Nat.two_pow_pos j
        by_cases hPi : P ≤ i
        · have hd2 : decide (P ≤ i) = true := decide_eq_true hPi
          have hj5 : j < 5 := by
            rcases Nat.lt_or_ge j 5 with h | h
            · exact h
            · have : 2 ^ 5 ≤ 2 ^ j := Nat.pow_le_pow_right (by omega) h
              rw [hP] at this
              omega
          have hP2 : 2 ^ (j + 1) = 2 * P := by rw [Nat.pow_succ, hP, Nat.mul_comm]
          have HP2 := Lib.hid hP2
          have HJ2 : Hid (j + 1 = 0 ∨ 2 ^ (j + 1 - 1) ≤ i) := Lib.hid (Or.inr (by rw [Nat.add_sub_cancel, hP]; exact hPi))
          clear hP hP2
          go_wp2
          go_roundw
          case rel => exact ⟨j + 1, _, rfl, by omega, by go_num, by rw [HP2.out]; go_num, HJ2, B, HL.out⟩
          case measure => simp [intOf]; omega
        · have hd2 : decide (P ≤ i) = false := decide_eq_false hPi
          have HV := Lib.hid (low_at (k := i) (j := j) hk30 hj (by omega) HJ.out)
          have HO := Lib.hid (low_ok (k := i) hk30)
          clear hP
          obtain ⟨a, ha⟩ : ∃ a, i &&& (i - 1) = a := ⟨_, rfl⟩
          rw [ha] at HV
          by_cases h1 : 1 < i
          · have hand : bits .and .i64 (i : Int) ((i : Int) - 1) = (a : Int) := by
              have e : (i : Int) - 1 = ((i - 1 : Nat) : Int) := by omega
              rw [e, and_nat (by omega) (by omega), ha]
            have hd1 : decide (1 < i) = true := decide_eq_true h1
            by_cases ha0 : a = 0
            · subst ha0
              have HV2 : Hid (htO (lowT i) = (j : Int) - 1) := Lib.hid (by rw [HV.out]; simp)
              clear ha
              go_wp2_with fail
              refine (awake12_any wz).mono ?_
              rintro e w1 ⟨rfl, hb⟩
              replace HL := Lib.hid (keeps_spots _ _ _ _ _ _ HL.out hb hb.size)
              replace B := B.trans (hb.mono B.size)
              clear hb
              go_wp2_with fail
              refine (show Calls _ _ _ _ (fun e W' => e = .returned (.bool true) ∧ Below w1.heap.size w1 W') from by have := refRight_any _ (spo (lowT i)) w1 HL.out (Nat.le_trans (okT_parts HO.out.1).1 (by decide)); rwa [HO.out.1] at this).mono ?_
              rintro e w2 ⟨rfl, hb⟩
              replace HL := Lib.hid (keeps_spots _ _ _ _ _ _ HL.out hb hb.size)
              replace B := B.trans (hb.mono B.size)
              clear hb
              go_wp2_with fail
              refine (refHeightO_any (lowT i) _ w2 HL.out (Nat.le_trans (okT_parts HO.out.1).1 (by decide))).mono ?_
              rintro e w3 ⟨rfl, hb⟩
              rw [HV2.out]
              replace B := B.trans (hb.mono B.size)
              clear hb
              go_wp2
              go_ret
              exact ⟨rfl, B⟩
            · have ha1 : ((a : Int) == 0) = false := beq_eq_false_iff_ne.2 (by omega)
              have ha2 : ¬ a = 0 := ha0
              have HV2 : Hid (htO (lowT i) = (j : Int)) := Lib.hid (by rw [HV.out, hd1, decide_eq_true ha2]; simp)
              clear ha
              go_wp2_with fail
              refine (awake12_any wz).mono ?_
              rintro e w1 ⟨rfl, hb⟩
              replace HL := Lib.hid (keeps_spots _ _ _ _ _ _ HL.out hb hb.size)
              replace B := B.trans (hb.mono B.size)
              clear hb
              go_wp2_with fail
              refine (show Calls _ _ _ _ (fun e W' => e = .returned (.bool true) ∧ Below w1.heap.size w1 W') from by have := refRight_any _ (spo (lowT i)) w1 HL.out (Nat.le_trans (okT_parts HO.out.1).1 (by decide)); rwa [HO.out.1] at this).mono ?_
              rintro e w2 ⟨rfl, hb⟩
              replace HL := Lib.hid (keeps_spots _ _ _ _ _ _ HL.out hb hb.size)
              replace B := B.trans (hb.mono B.size)
              clear hb
              go_wp2_with fail
              refine (refHeightO_any (lowT i) _ w2 HL.out (Nat.le_trans (okT_parts HO.out.1).1 (by decide))).mono ?_
              rintro e w3 ⟨rfl, hb⟩
              rw [HV2.out]
              replace B := B.trans (hb.mono B.size)
              clear hb
              go_wp2
              go_ret
              exact ⟨rfl, B⟩
          · have hd1 : decide (1 < i) = false := decide_eq_false h1
            have HV2 : Hid (htO (lowT i) = (j : Int) - 1) := Lib.hid (by rw [HV.out, hd1]; simp)
            clear ha
            go_wp2_with fail
            refine (awake12_any wz).mono ?_
            rintro e w1 ⟨rfl, hb⟩
            replace HL := Lib.hid (keeps_spots _ _ _ _ _ _ HL.out hb hb.size)
            replace B := B.trans (hb.mono B.size)
            clear hb
            go_wp2_with fail
            refine (show Calls _ _ _ _ (fun e W' => e = .returned (.bool true) ∧ Below w1.heap.size w1 W') from by have := refRight_any _ (spo (lowT i)) w1 HL.out (Nat.le_trans (okT_parts HO.out.1).1 (by decide)); rwa [HO.out.1] at this).mono ?_
            rintro e w2 ⟨rfl, hb⟩
            replace HL := Lib.hid (keeps_spots _ _ _ _ _ _ HL.out hb hb.size)
            replace B := B.trans (hb.mono B.size)
            clear hb
            go_wp2_with fail
            refine (refHeightO_any (lowT i) _ w2 HL.out (Nat.le_trans (okT_parts HO.out.1).1 (by decide))).mono ?_
            rintro e w3 ⟨rfl, hb⟩
            rw [HV2.out]
            replace B := B.trans (hb.mono B.size)
            clear hb
            go_wp2
            go_ret
            exact ⟨rfl, B⟩

end Go.Proofs.Ytokhaldnakjiaaa
