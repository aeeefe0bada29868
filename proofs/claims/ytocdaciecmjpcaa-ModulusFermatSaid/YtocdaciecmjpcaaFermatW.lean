/- lodgelaw04.ModulusFermat answers true, whatever comes in, and leaves memory below as it was. No condition. -/
import Derived.Test.YtocdaciecmjpcaaLaw4
import Derived.Test.YtocdaciecmjpcaaNumP
import Derived.Deep.DeepCutAuto
namespace Go.Proofs.Ytocdaciecmjpcaa
open Go.RowKit Go.Shelf Num
set_option linter.unusedVariables false

theorem val_solo (x : Nat) : val [x] = x := by simp [val]
theorem at_0 (w : World) : (Instr.index 34 (.agg #[.int .u64 2, .int .u64 3, .int .u64 23, .int .u64 2039, .int .u64 65537, .int .u64 2305843009213693951]) (.int .u8 0)).run Try.prog w = .ok (.int .u64 2) w := by kernel_rfl
theorem at_1 (w : World) : (Instr.index 34 (.agg #[.int .u64 2, .int .u64 3, .int .u64 23, .int .u64 2039, .int .u64 65537, .int .u64 2305843009213693951]) (.int .u8 1)).run Try.prog w = .ok (.int .u64 3) w := by kernel_rfl
theorem at_2 (w : World) : (Instr.index 34 (.agg #[.int .u64 2, .int .u64 3, .int .u64 23, .int .u64 2039, .int .u64 65537, .int .u64 2305843009213693951]) (.int .u8 2)).run Try.prog w = .ok (.int .u64 23) w := by kernel_rfl
theorem at_3 (w : World) : (Instr.index 34 (.agg #[.int .u64 2, .int .u64 3, .int .u64 23, .int .u64 2039, .int .u64 65537, .int .u64 2305843009213693951]) (.int .u8 3)).run Try.prog w = .ok (.int .u64 2039) w := by kernel_rfl
theorem at_4 (w : World) : (Instr.index 34 (.agg #[.int .u64 2, .int .u64 3, .int .u64 23, .int .u64 2039, .int .u64 65537, .int .u64 2305843009213693951]) (.int .u8 4)).run Try.prog w = .ok (.int .u64 65537) w := by kernel_rfl
theorem at_5 (w : World) : (Instr.index 34 (.agg #[.int .u64 2, .int .u64 3, .int .u64 23, .int .u64 2039, .int .u64 65537, .int .u64 2305843009213693951]) (.int .u8 5)).run Try.prog w = .ok (.int .u64 2305843009213693951) w := by kernel_rfl

set_option maxRecDepth 100000 in
set_option maxHeartbeats 8000000 in
theorem modFermat_big (a0 : Option Addr) (n0 c0 : Nat) (k : Int) (w : World) (h : ¬ n0 ≤ 4) :
    Calls Try.prog 6 #[.slice a0 n0 c0, .int .u8 k] w fun e w' => e = .returned (.bool true) ∧ Below w.heap.size w w' := by
  go_enter Try.func6, Try.ntmps6
  have B := Below.refl w.heap.size w
  go_wp2_with fail
  refine (small1_is 4 _ _ _ w (by omega) false (decide_eq_false h)).mono ?_
  rintro e W1 ⟨rfl, hb⟩
  replace B := (al1 B _).trans (hb.mono (al1 B _).size)
  clear hb
  go_wp2_with fail
  refine (awake4_any _).mono ?_
  rintro e W2 ⟨rfl, hb⟩
  replace B := B.trans (hb.mono B.size)
  go_wp2
  go_ret
  exact ⟨rfl, B⟩

set_option maxRecDepth 100000 in
set_option maxHeartbeats 8000000 in
theorem modFermat_main (a0 : Option Addr) (c0 : Nat) (xs : List Nat) (k : Nat) (w : World) (La : Lim w.heap.size w (.slice a0 xs.length c0) xs) (h0 : xs.length ≤ 4) (hk : k ≤ 255) :
    Calls Try.prog 6 #[.slice a0 xs.length c0, .int .u8 (k : Int)] w fun e w' => e = .returned (.bool true) ∧ Below w.heap.size w w' := by
  go_enter Try.func6, Try.ntmps6
  have B := Below.refl w.heap.size w
  go_wp2_with fail
  refine (small1_is 4 _ _ _ w (by omega) true (decide_eq_true h0)).mono ?_
  rintro e W1 ⟨rfl, hb⟩
  replace La := (La.alloc _).next hb
  replace B := (al1 B _).trans (hb.mono (al1 B _).size)
  clear hb
  go_upto_region 3 with fail
  go_cut [5] (fun s5 wx => ∃ p : Nat, s5 = .int .u64 (p : Int) ∧ (p = 2 ∨ p = 3 ∨ p = 23 ∨ p = 2039 ∨ p = 65537 ∨ p = 2305843009213693951) ∧ wx = W1)
  case first =>
    obtain ⟨q, r, hr, hq⟩ : ∃ q r : Nat, k = 6 * q + r ∧ (r = 0 ∨ r = 1 ∨ r = 2 ∨ r = 3 ∨ r = 4 ∨ r = 5) := ⟨k / 6, k % 6, by omega, by omega⟩
    have hm : (k : Int).tmod 6 = (r : Int) := by rw [Int.tmod_eq_emod_of_nonneg (by omega)]; omega
    rcases hq with rfl | rfl | rfl | rfl | rfl | rfl
    · have hix := at_0
      go_wp2_with fail
      go_meet
      exact ⟨2, rfl, .inl rfl, rfl⟩
    · have hix := at_1
      go_wp2_with fail
      go_meet
      exact ⟨3, rfl, .inr (.inl rfl), rfl⟩
    · have hix := at_2
      go_wp2_with fail
      go_meet
      exact ⟨23, rfl, .inr (.inr (.inl rfl)), rfl⟩
    · have hix := at_3
      go_wp2_with fail
      go_meet
      exact ⟨2039, rfl, .inr (.inr (.inr (.inl rfl))), rfl⟩
    · have hix := at_4
      go_wp2_with fail
      go_meet
      exact ⟨65537, rfl, .inr (.inr (.inr (.inr (.inl rfl)))), rfl⟩
    · have hix := at_5
      go_wp2_with fail
      go_meet
      exact ⟨2305843009213693951, rfl, .inr (.inr (.inr (.inr (.inr (rfl))))), rfl⟩
  case rest =>
    obtain ⟨p, rfl, hp, rfl⟩ := hcut
    obtain ⟨hp1, hpM, hf⟩ := fermats_all hp
    have HF := Lib.hid hf
    clear hf hp
    obtain ⟨q, hq⟩ : ∃ q : Nat, p = q + 1 := ⟨p - 1, by omega⟩
    have hw : IntKind.u64.wrap ((p : Int) - 1) = (q : Int) := by rw [IntKind.wrap_u64]; unfold M at hpM; omega
    have HQ := Lib.hid hq
    clear hq
    go_wp2_with fail
    have hqM : q < M := by have := HQ.out; omega
    have hp0 : val [p] ≠ 0 := by rw [val_solo]; omega
    refine (power_any _ _ _ xs [q] [p] _ ((La.alloc _).alloc _) ((lim_lit1 wc q hqM).alloc _) (lim_lit1' wc _ p hpM) (by omega) (by simp) (by simp) hp0).mono ?_
    rintro e W2 ⟨vx, rfl, Lx, hb⟩
    rw [val_solo, val_solo] at Lx
    replace La := ((La.alloc _).alloc _).next hb
    replace B := (al1 (al1 B _) _).trans (hb.mono (al1 (al1 B _) _).size)
    clear hb
    go_wp2_with fail
    refine (rest_any _ _ xs [p] _ (La.alloc _) (lim_lit1 W2 p hpM) (by omega) (by simp) hp0).mono ?_
    rintro e W3 ⟨vr, rfl, Lr, hb⟩
    rw [val_solo] at Lr
    replace Lx := (Lx.alloc _).next hb
    replace B := (al1 B _).trans (hb.mono (al1 B _).size)
    clear hb La
    have hlr : (limbs (val xs % p)).length ≤ 1 := limbs_len (by rw [Nat.pow_one]; exact Nat.lt_trans (Nat.mod_lt _ (by omega)) hpM)
    have hlx : (limbs (pm (val xs) q p)).length ≤ 1 := limbs_len (by rw [Nat.pow_one]; exact Nat.lt_trans (pm_lt _ _ (by omega)) hpM)
    by_cases hz : val xs % p = 0
    · have hx0 : pm (val xs) q p = 0 := by rw [← pm_mod, hz]; exact pm_nought p (by have := HQ.out; omega)
      rw [hz] at Lr hlr
      rw [hx0] at Lx hlx
      clear hz hx0
      have hq0 : (((nbits (val (limbs 0)) : Nat) : Int) == 0) = true := by rw [limbs_zero]; rfl
      go_wp2_with fail
      refine (refBits_any _ _ _ Lr (by omega)).mono ?_
      rintro e W4 ⟨rfl, hb⟩
      replace Lx := Lx.next hb
      replace B := B.trans (hb.mono B.size)
      clear hb
      go_wp2_with fail
      refine (awake4_any _).mono ?_
      rintro e W5 ⟨rfl, hb⟩
      replace Lx := Lx.next hb
      replace B := B.trans (hb.mono B.size)
      clear hb
      go_wp2_with fail
      refine (refBits_any _ _ _ Lx (by omega)).mono ?_
      rintro e W6 ⟨rfl, hb⟩
      replace B := B.trans (hb.mono B.size)
      clear hb
      go_wp2
      go_ret
      exact ⟨rfl, B⟩
    · have hx1 : pm (val xs) q p = 1 := by
        have h := HF.out (val xs) hz
        rwa [show p - 1 = q by have := HQ.out; omega] at h
      rw [hx1] at Lx hlx
      have hq0 := bits_not (n := val (limbs (val xs % p))) (by rw [val_limbs]; exact hz)
      clear hz hx1
      go_wp2_with fail
      refine (refBits_any _ _ _ Lr (by omega)).mono ?_
      rintro e W4 ⟨rfl, hb⟩
      replace Lx := Lx.next hb
      replace B := B.trans (hb.mono B.size)
      clear hb
      go_wp2_with fail
      refine (awake4_any _).mono ?_
      rintro e W5 ⟨rfl, hb⟩
      replace Lx := Lx.next hb
      replace B := B.trans (hb.mono B.size)
      clear hb
      go_wp2_with fail
      refine (same_any _ _ _ [1] _ (Lx.alloc _) (lim_lit1 W5 1 (under (by omega))) (by omega) (by simp) (by rw [limbs_one])).mono ?_
      rintro e W6 ⟨rfl, hb⟩
      replace B := (al1 B _).trans (hb.mono (al1 B _).size)
      clear hb
      go_wp2
      go_ret
      exact ⟨rfl, B⟩

theorem modFermat_any (a0 : Option Addr) (n0 c0 : Nat) (k : Int) (w : World) (w0 : ∃ xs : List Nat, xs.length = n0 ∧ Lim w.heap.size w (.slice a0 n0 c0) xs) (w1 : (Lit.int .u8 k).wf = true) :
    Calls Try.prog 6 #[.slice a0 n0 c0, .int .u8 k] w fun e w' => e = .returned (.bool true) ∧ Below w.heap.size w w' := by
  by_cases h : n0 ≤ 4
  rotate_left
  · exact modFermat_big a0 n0 c0 k w h
  obtain ⟨x0, e0, L0⟩ := w0
  subst e0
  have hk : 0 ≤ k ∧ k ≤ 255 := by
    simp [Lit.wf] at w1
    have e1 : IntKind.u8.min = 0 := by decide
    have e2 : IntKind.u8.max = 255 := by decide
    omega
  obtain ⟨n, hn⟩ : ∃ n : Nat, k = (n : Int) := ⟨k.toNat, by omega⟩
  subst hn
  exact modFermat_main _ _ _ n w L0 h (by omega)

end Go.Proofs.Ytocdaciecmjpcaa
