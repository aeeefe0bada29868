/- What bits.LeadingZeros64 and bits.Div64 answer. Conditions: of Div64, that the divisor's highest bit is set, and that it is more than the high limb. -/
import Derived.Test.YtilbkfgbbajelaaLenA
import Derived.Test.YtilbkfgbbajelaaNumA
import Derived.Laws.Bits64b
import Derived.Deep.CutBlock
import Derived.Deep.DeepCutAuto
namespace Go.Proofs.Ytilbkfgbbajelaa
open Go.RowKit Go.Shelf Num
set_option linter.unusedVariables false

set_option maxHeartbeats 1000000 in
theorem zeros_any (x : Nat) (w : World) (hx : x < M) :
    Calls Try.prog 66 #[.int .u64 (x : Int)] w fun e w' => e = .returned (.int .i64 ((64 - nbits x : Nat) : Int)) ∧ w = w' := by
  have hn := nbits_lim hx
  go_enter Try.func66, Try.ntmps66
  go_wp2_with (go_at_call 70; refine (len64_any _ _ hx).mono ?_; rintro e w' ⟨rfl, rfl⟩)
  go_ret
  exact ⟨ret_int (by omega), rfl⟩

theorem maskN (a : Nat) (ha : a < 18446744073709551616) : bits BinOp.and IntKind.u64 (a : Int) 4294967295 = ((a % 4294967296 : Nat) : Int) := by
  have h := bits_and_u64_nat a 4294967295 ha (by omega)
  rw [Nat.and_two_pow_sub_one_eq_mod a 32] at h
  exact h

theorem wrap_div {a b : Nat} (ha : a < 18446744073709551616) : IntKind.u64.wrap ((a : Int) / (b : Int)) = ((a / b : Nat) : Int) := by
  have h : a / b ≤ a := Nat.div_le_self _ _
  rw [← Int.natCast_ediv, IntKind.wrap_u64]
  generalize a / b = q at *
  omega
theorem wrap_rest {a b : Nat} (ha : a < 18446744073709551616) : IntKind.u64.wrap ((a : Int) - IntKind.u64.wrap (((a / b : Nat) : Int) * (b : Int))) = ((a % b : Nat) : Int) := by
  have h := Nat.div_add_mod' a b
  rw [← Int.natCast_mul, IntKind.wrap_u64, IntKind.wrap_u64]
  generalize a / b * b = q at *
  generalize a % b = r at *
  omega
/-- What the search of a digit goes by. -/
theorem dig_facts (hi u1 y1 y0 y : Nat) (hY : y = y1 * 4294967296 + y0) (hy1 : 2147483648 ≤ y1) (hy0 : y0 < 4294967296) (hq : hi < y) (hu : u1 < 4294967296) :
    ∃ q r : Nat, q = (hi * 4294967296 + u1) / y ∧ r = (hi * 4294967296 + u1) % y ∧ r < y ∧ q < 4294967296 ∧ q * y + r = hi * 4294967296 + u1 ∧
      (∀ Q R : Nat, Q * y1 + R = hi → (4294967296 ≤ Q ∨ 4294967296 * R + u1 < Q * y0) → 1 ≤ Q ∧ q ≤ Q - 1) ∧
      (∀ Q R : Nat, Q * y1 + R = hi → Q * y0 ≤ 4294967296 * R + u1 → q ≤ Q → Q = q) ∧ q ≤ hi / y1 ∧ hi / y1 ≤ 4294967297 := by
  subst hY
  have hp : 0 < y1 * 4294967296 + y0 := by omega
  obtain ⟨s1, s2, s3, s4⟩ := dig_start hy1 hy0 hq hu
  refine ⟨_, _, rfl, rfl, Nat.mod_lt _ hp, ?_, Nat.div_add_mod' _ _, fun Q R h hc => dig_less hp (dig_more h hq hu hc), fun Q R h hc hqq => dig_is hp (dig_not h hc) hqq, s2, s3⟩
  exact (Nat.div_lt_iff_lt_mul hp).2 (by omega)
theorem one_less {Q R y1 hi : Nat} (h : Q * y1 + R = hi) (hQ : 1 ≤ Q) : (Q - 1) * y1 + (R + y1) = hi := by
  obtain ⟨k, rfl⟩ : ∃ k, Q = k + 1 := ⟨Q - 1, by omega⟩
  rw [Nat.add_mul] at h
  rw [Nat.add_sub_cancel]
  omega

theorem nbits_high {y : Nat} (h : 9223372036854775808 ≤ y) (hy : y < M) : nbits y = 64 := by
  have h1 := nbits_lim hy
  rcases Nat.lt_or_ge (nbits y) 64 with h2 | h2
  · have h3 : y < 2 ^ 63 := nbits_le.1 (by omega)
    have : (2 : Nat) ^ 63 = 9223372036854775808 := by decide
    omega
  · omega

set_option maxRecDepth 100000 in
set_option maxHeartbeats 4000000 in
theorem div64_any (hi lo y : Nat) (w : World) (hh : hi < y) (hl : lo < M) (hy : y < M) (hn : 9223372036854775808 ≤ y) :
    Calls Try.prog 86 #[.int .u64 (hi : Int), .int .u64 (lo : Int), .int .u64 (y : Int)] w fun e w' => (∃ r : Int, e = .returned (.tuple #[.int .u64 (((hi * M + lo) / y : Nat) : Int), .int .u64 r])) ∧ ∃ n, w' = w.drewN n := by
  have hz := nbits_high hn hy
  have d1 : ((y : Int) == 0) = false := by simp; omega
  have d2 : decide (y ≤ hi) = false := by simpa using hh
  have hyp : (y : Int) ≠ 0 := by omega
  by_cases h0 : hi = 0
  · subst h0
    unfold M at hy hl
    have d3 : (((0 : Nat) : Int) == 0) = true := rfl
    go_enter Try.func86, Try.ntmps86
    go_wp2_with fail
    go_quiet (fail)
    go_wp2
    go_ret2
    exact ⟨⟨_, by rw [wrap_div hl, Nat.zero_mul, Nat.zero_add]; rfl⟩, nq, rfl⟩
  · have d3 : ((hi : Int) == 0) = false := by simpa using h0
    have hlz := zeros_any y w hy
    rw [hz] at hlz
    have HLZ := Lib.hid hlz
    clear hlz
    obtain ⟨y1, y0, hY, hy0⟩ : ∃ y1 y0 : Nat, y = y1 * 4294967296 + y0 ∧ y0 < 4294967296 := ⟨y / 4294967296, y % 4294967296, by omega, by omega⟩
    obtain ⟨u1, u0, hV, hu0⟩ : ∃ u1 u0 : Nat, lo = u1 * 4294967296 + u0 ∧ u0 < 4294967296 := ⟨lo / 4294967296, lo % 4294967296, by omega, by omega⟩
    unfold M at hy hl
    have hu1 : u1 < 4294967296 := by omega
    have hy1 : 2147483648 ≤ y1 := by omega
    have hy1' : y1 < 4294967296 := by omega
    have E1 : (y : Int) / 4294967296 = (y1 : Int) := by omega
    have E2 : bits BinOp.and IntKind.u64 (y : Int) 4294967295 = (y0 : Int) := (maskN y hy).trans (by omega)
    have E3 : bits BinOp.or IntKind.u64 (hi : Int) ((lo : Int) / 18446744073709551616) = (hi : Int) := by
      have e : (lo : Int) / 18446744073709551616 = ((0 : Nat) : Int) := by omega
      rw [e, bits_or_u64_nat _ _ (by omega) (by omega), Nat.or_zero]
    have E4 : (lo : Int) / 4294967296 = (u1 : Int) := by omega
    have E5 : bits BinOp.and IntKind.u64 (lo : Int) 4294967295 = (u0 : Int) := (maskN lo hl).trans (by omega)
    obtain ⟨q1, r1, hq1, hr1, hr1y, hq1B, hU, hm1, hd1, hs1, hs1'⟩ := dig_facts hi u1 y1 y0 y hY hy1 hy0 hh hu1
    obtain ⟨q2, r2, hq2, hr2, hr2y, hq2B, hU2, hm2, hd2, hs2, hs2'⟩ := dig_facts r1 u0 y1 y0 y hY hy1 hy0 hr1y hu0
    have HFIN := Lib.hid (show q1 * 4294967296 + q2 = (hi * M + lo) / y by
      rw [hq2, hr1, hq1, hV]
      exact dig_both (by omega))
    have HU := Lib.hid hU
    have HU2 := Lib.hid hU2
    have HM1 := Lib.hid hm1
    have HM2 := Lib.hid hm2
    have HD1 := Lib.hid hd1
    have HD2 := Lib.hid hd2
    have E6 := wrap_div (a := hi) (b := y1) (by omega)
    have E7 := wrap_rest (a := hi) (b := y1) (by omega)
    have hlt1 := Nat.mod_lt hi (show 0 < y1 by omega)
    have HS1 := Lib.hid (Nat.div_add_mod' hi y1)
    clear hq2 hr1 hq1 hV hY hr2 hm1 hm2 hd1 hd2 hU hU2
    generalize hi / y1 = Q0 at *
    generalize hi % y1 = R0 at *
    go_enter Try.func86, Try.ntmps86
    go_upto_block 0 with (go_at_call 66; refine HLZ.out.mono ?_; rintro e w' ⟨rfl, rfl⟩)
    clear E3 E4 E5 E6 E7 E2 HLZ
    go_cut [15] (fun s15 wx => w = wx ∧ s15 = .int .u64 (q1 : Int))
    case first =>
      go_wp2_with fail
      go_loopg [15, 16] Q0 (fun g s15 s16 wx => w = wx ∧ ∃ R : Nat, s15 = .int .u64 (g : Int) ∧ s16 = .int .u64 (R : Int) ∧ g * y1 + R = hi ∧ q1 ≤ g ∧ g ≤ 4294967297 ∧ R < 4294967296)
      case atStart => exact ⟨rfl, R0, rfl, rfl, HS1.out, hs1, hs1', by omega⟩
      case round =>
        obtain ⟨rfl, R, rfl, rfl, hQR, hqQ, hQB, hRB⟩ := hrel
        have HQR := Lib.hid hQR
        clear hQR HS1 hs1 hs1' hlt1
        by_cases hc : 4294967296 ≤ gk
        · obtain ⟨g1, g2⟩ := HM1.out gk R HQR.out (.inl hc)
          have c1 : decide (4294967296 ≤ (gk : Int)) = true := by simp; omega
          have c1' : decide (4294967296 ≤ gk) = true := by simpa using hc
          have H1 := Lib.hid (one_less HQR.out g1)
          by_cases hb : 4294967296 ≤ R + y1
          · have hbI : 4294967296 ≤ (R : Int) + (y1 : Int) := by omega
            have hE := HD1.out (gk - 1) (R + y1) H1.out (dig_brk (by omega) hy0 hb) g2
            have HE := Lib.hid hE
            clear hE
            go_wp2
            go_meet
            exact ⟨rfl, congrArg (Value.int .u64) (by rw [← HE.out]; omega)⟩
          · have hbI : ¬ 4294967296 ≤ (R : Int) + (y1 : Int) := by omega
            go_wp2
            go_roundg (gk - 1)
            case measure => omega
            case rel => exact ⟨rfl, R + y1, congrArg (Value.int .u64) (by omega), congrArg (Value.int .u64) (by omega), H1.out, g2, by omega, by omega⟩
        · have c1 : decide (4294967296 ≤ (gk : Int)) = false := by simp; omega
          have c1' : decide (4294967296 ≤ gk) = false := by simpa using hc
          have hP := dig_small (show gk < 4294967296 by omega) hy0
          obtain ⟨P, hPe⟩ : ∃ P, P = gk * y0 := ⟨_, rfl⟩
          rw [← hPe] at hP
          have hw : IntKind.u64.wrap ((gk : Int) * (y0 : Int)) = (P : Int) := by rw [← Int.natCast_mul, ← hPe, IntKind.wrap_u64]; omega
          have HP := Lib.hid hPe
          clear hPe
          by_cases hc2 : 4294967296 * R + u1 < P
          · obtain ⟨g1, g2⟩ := HM1.out gk R HQR.out (.inr (by rw [← HP.out]; exact hc2))
            have H1 := Lib.hid (one_less HQR.out g1)
            have hc2I : 4294967296 * (R : Int) + (u1 : Int) < (P : Int) := by omega
            by_cases hb : 4294967296 ≤ R + y1
            · have hbI : 4294967296 ≤ (R : Int) + (y1 : Int) := by omega
              have hE := HD1.out (gk - 1) (R + y1) H1.out (dig_brk (by omega) hy0 hb) g2
              have HE := Lib.hid hE
              clear hE
              go_wp2
              go_meet
              exact ⟨rfl, congrArg (Value.int .u64) (by rw [← HE.out]; omega)⟩
            · have hbI : ¬ 4294967296 ≤ (R : Int) + (y1 : Int) := by omega
              go_wp2
              go_roundg (gk - 1)
              case measure => omega
              case rel => exact ⟨rfl, R + y1, congrArg (Value.int .u64) (by omega), congrArg (Value.int .u64) (by omega), H1.out, g2, by omega, by omega⟩
          · have hE := HD1.out gk R HQR.out (by rw [← HP.out]; omega) hqQ
            have HE := Lib.hid hE
            clear hE
            have hc2I : ¬ 4294967296 * (R : Int) + (u1 : Int) < (P : Int) := by omega
            go_wp2
            go_meet
            exact ⟨rfl, congrArg (Value.int .u64) (by rw [← HE.out])⟩
    case rest =>
      obtain ⟨rfl, rfl⟩ := hcut
      have E8 : IntKind.u64.wrap (IntKind.u64.wrap (IntKind.u64.wrap ((hi : Int) * 4294967296) + (u1 : Int)) - IntKind.u64.wrap ((q1 : Int) * (y : Int))) = (r1 : Int) := by
        have h := HU.out
        rw [← Int.natCast_mul, IntKind.wrap_u64, IntKind.wrap_u64, IntKind.wrap_u64, IntKind.wrap_u64]
        generalize q1 * y = P at *
        omega
      have E6 := wrap_div (a := r1) (b := y1) (by omega)
      have E7 := wrap_rest (a := r1) (b := y1) (by omega)
      have hlt2 := Nat.mod_lt r1 (show 0 < y1 by omega)
      have HS2 := Lib.hid (Nat.div_add_mod' r1 y1)
      clear HM1 HD1 HS1 hs1 hs1' hlt1
      generalize r1 / y1 = Q1 at *
      generalize r1 % y1 = R1 at *
      go_upto_block 2 with fail
      clear E6 E7 E8
      go_cut [18] (fun s18 wx => w = wx ∧ s18 = .int .u64 (q2 : Int))
      case first =>
        go_wp2_with fail
        go_loopg [18, 16] Q1 (fun g s18 s16 wx => w = wx ∧ ∃ R : Nat, s18 = .int .u64 (g : Int) ∧ s16 = .int .u64 (R : Int) ∧ g * y1 + R = r1 ∧ q2 ≤ g ∧ g ≤ 4294967297 ∧ R < 4294967296)
        case atStart => exact ⟨rfl, R1, rfl, rfl, HS2.out, hs2, hs2', by omega⟩
        case round =>
          obtain ⟨rfl, R, rfl, rfl, hQR, hqQ, hQB, hRB⟩ := hrel
          have HQR := Lib.hid hQR
          clear hQR HS2 hs2 hs2' hlt2
          by_cases hc : 4294967296 ≤ gk
          · obtain ⟨g1, g2⟩ := HM2.out gk R HQR.out (.inl hc)
            have c1 : decide (4294967296 ≤ (gk : Int)) = true := by simp; omega
            have c1' : decide (4294967296 ≤ gk) = true := by simpa using hc
            have H1 := Lib.hid (one_less HQR.out g1)
            by_cases hb : 4294967296 ≤ R + y1
            · have hbI : 4294967296 ≤ (R : Int) + (y1 : Int) := by omega
              have hE := HD2.out (gk - 1) (R + y1) H1.out (dig_brk (by omega) hy0 hb) g2
              have HE := Lib.hid hE
              clear hE
              go_wp2
              go_meet
              exact ⟨rfl, congrArg (Value.int .u64) (by rw [← HE.out]; omega)⟩
            · have hbI : ¬ 4294967296 ≤ (R : Int) + (y1 : Int) := by omega
              go_wp2
              go_roundg (gk - 1)
              case measure => omega
              case rel => exact ⟨rfl, R + y1, congrArg (Value.int .u64) (by omega), congrArg (Value.int .u64) (by omega), H1.out, g2, by omega, by omega⟩
          · have c1 : decide (4294967296 ≤ (gk : Int)) = false := by simp; omega
            have c1' : decide (4294967296 ≤ gk) = false := by simpa using hc
            have hP := dig_small (show gk < 4294967296 by omega) hy0
            obtain ⟨P, hPe⟩ : ∃ P, P = gk * y0 := ⟨_, rfl⟩
            rw [← hPe] at hP
            have hw : IntKind.u64.wrap ((gk : Int) * (y0 : Int)) = (P : Int) := by rw [← Int.natCast_mul, ← hPe, IntKind.wrap_u64]; omega
            have HP := Lib.hid hPe
            clear hPe
            by_cases hc2 : 4294967296 * R + u0 < P
            · obtain ⟨g1, g2⟩ := HM2.out gk R HQR.out (.inr (by rw [← HP.out]; exact hc2))
              have H1 := Lib.hid (one_less HQR.out g1)
              have hc2I : 4294967296 * (R : Int) + (u0 : Int) < (P : Int) := by omega
              by_cases hb : 4294967296 ≤ R + y1
              · have hbI : 4294967296 ≤ (R : Int) + (y1 : Int) := by omega
                have hE := HD2.out (gk - 1) (R + y1) H1.out (dig_brk (by omega) hy0 hb) g2
                have HE := Lib.hid hE
                clear hE
                go_wp2
                go_meet
                exact ⟨rfl, congrArg (Value.int .u64) (by rw [← HE.out]; omega)⟩
              · have hbI : ¬ 4294967296 ≤ (R : Int) + (y1 : Int) := by omega
                go_wp2
                go_roundg (gk - 1)
                case measure => omega
                case rel => exact ⟨rfl, R + y1, congrArg (Value.int .u64) (by omega), congrArg (Value.int .u64) (by omega), H1.out, g2, by omega, by omega⟩
            · have hE := HD2.out gk R HQR.out (by rw [← HP.out]; omega) hqQ
              have HE := Lib.hid hE
              clear hE
              have hc2I : ¬ 4294967296 * (R : Int) + (u0 : Int) < (P : Int) := by omega
              go_wp2
              go_meet
              exact ⟨rfl, congrArg (Value.int .u64) (by rw [← HE.out])⟩
      case rest =>
        obtain ⟨rfl, rfl⟩ := hcut
        go_wp2
        go_ret2
        exact ⟨⟨_, by rw [← HFIN.out]; go_num⟩, 0, rfl⟩

end Go.Proofs.Ytilbkfgbbajelaa
