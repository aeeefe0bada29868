/- Several texts in one: each part says what it proves, and under which conditions. -/
import Derived.Test.YtjnefacdindamaaGreatDoorLenA
import Derived.Test.YtjnefacdindamaaGreatDoorNumA
import Derived.Laws.Bits64b
import Derived.Deep.CutBlock
import Derived.Deep.DeepCutAuto
import Derived.Deep.OwnRows
import Derived.Test.YtjnefacdindamaaGreatDoorLayA
import Derived.Shelf.Bits.Mul64
import Derived.Test.YtjnefacdindamaaGreatDoorNat

/- What bits.LeadingZeros64 and bits.Div64 answer. Conditions: of Div64, that the divisor's highest bit is set, and that it is more than the high limb. -/
namespace Go.Proofs.YtjnefacdindamaaGreatDoor
open Go.RowKit Go.Shelf Num
set_option linter.unusedVariables false
set_option maxRecDepth 100000

set_option maxHeartbeats 1000000 in
theorem zeros_any (x : Nat) (w : World) (hx : x < M) :
    Calls Tryz.prog 121 #[.int .u64 (x : Int)] w fun e w' => e = .returned (.int .i64 ((64 - nbits x : Nat) : Int)) ∧ w = w' := by
  have hn := nbits_lim hx
  go_enter Tryz.func121, Tryz.ntmps121
  go_wp2_with (go_at_call 82; refine (len64_any _ _ hx).mono ?_; rintro e w' ⟨rfl, rfl⟩)
  go_ret
  exact ⟨ret_int (by omega), rfl⟩

theorem maskN (a : Nat) (ha : a < 18446744073709551616) : bits BinOp.and IntKind.u64 (a : Int) 4294967295 = ((a % 4294967296 : Nat) : Int) := by
  have h := bits_and_u64_nat a 4294967295 ha (by omega)
  rw [Nat.and_two_pow_sub_one_eq_mod a 32] at h
  exact h

theorem wrap_div {a b : Nat} (ha : a < 18446744073709551616) : IntKind.u64.wrap ((a : Int) / (b : Int)) = ((a / b : Nat) : Int) := by
  have h : a / b ≤ a := Nat.div_le_self _ _
  rw [← Int.natCast_ediv, IntKind.wrap_u64]
  generalize a / b = q at *
  omega
theorem wrap_rest {a b : Nat} (ha : a < 18446744073709551616) : IntKind.u64.wrap ((a : Int) - IntKind.u64.wrap (((a / b : Nat) : Int) * (b : Int))) = ((a % b : Nat) : Int) := by
  have h := Nat.div_add_mod' a b
  rw [← Int.natCast_mul, IntKind.wrap_u64, IntKind.wrap_u64]
  generalize a / b * b = q at *
  generalize a % b = r at *
  omega
/-- What the search of a digit goes by. -/
theorem dig_facts (hi u1 y1 y0 y : Nat) (hY : y = y1 * 4294967296 + y0) (hy1 : 2147483648 ≤ y1) (hy0 : y0 < 4294967296) (hq : hi < y) (hu : u1 < 4294967296) :
    ∃ q r : Nat, q = (hi * 4294967296 + u1) / y ∧ r = (hi * 4294967296 + u1) % y ∧ r < y ∧ q < 4294967296 ∧ q * y + r = hi * 4294967296 + u1 ∧
      (∀ Q R : Nat, Q * y1 + R = hi → (4294967296 ≤ Q ∨ 4294967296 * R + u1 < Q * y0) → 1 ≤ Q ∧ q ≤ Q - 1) ∧
      (∀ Q R : Nat, Q * y1 + R = hi → Q * y0 ≤ 4294967296 * R + u1 → q ≤ Q → Q = q) ∧ q ≤ hi / y1 ∧ hi / y1 ≤ 4294967297 := by
  subst hY
  have hp : 0 < y1 * 4294967296 + y0 := by omega
  obtain ⟨s1, s2, s3, s4⟩ := dig_start hy1 hy0 hq hu
  refine ⟨_, _, rfl, rfl, Nat.mod_lt _ hp, ?_, Nat.div_add_mod' _ _, fun Q R h hc => dig_less hp (dig_more h hq hu hc), fun Q R h hc hqq => dig_is hp (dig_not h hc) hqq, s2, s3⟩
  exact (Nat.div_lt_iff_lt_mul hp).2 (by omega)
theorem one_less {Q R y1 hi : Nat} (h : Q * y1 + R = hi) (hQ : 1 ≤ Q) : (Q - 1) * y1 + (R + y1) = hi := by
  obtain ⟨k, rfl⟩ : ∃ k, Q = k + 1 := ⟨Q - 1, by omega⟩
  rw [Nat.add_mul] at h
  rw [Nat.add_sub_cancel]
  omega

theorem nbits_high {y : Nat} (h : 9223372036854775808 ≤ y) (hy : y < M) : nbits y = 64 := by
  have h1 := nbits_lim hy
  rcases Nat.lt_or_ge (nbits y) 64 with h2 | h2
  · have h3 : y < 2 ^ 63 := nbits_le.1 (by omega)
    have : (2 : Nat) ^ 63 = 9223372036854775808 := by decide
    omega
  · omega

set_option maxRecDepth 100000 in
set_option maxHeartbeats 4000000 in
theorem div64_any (hi lo y : Nat) (w : World) (hh : hi < y) (hl : lo < M) (hy : y < M) (hn : 9223372036854775808 ≤ y) :
    Calls Tryz.prog 138 #[.int .u64 (hi : Int), .int .u64 (lo : Int), .int .u64 (y : Int)] w fun e w' => (∃ r : Int, e = .returned (.tuple #[.int .u64 (((hi * M + lo) / y : Nat) : Int), .int .u64 r])) ∧ ∃ n, w' = w.drewN n := by
  have hz := nbits_high hn hy
  have d1 : ((y : Int) == 0) = false := by simp; omega
  have d2 : decide (y ≤ hi) = false := by simpa using hh
  have hyp : (y : Int) ≠ 0 := by omega
  by_cases h0 : hi = 0
  · subst h0
    unfold M at hy hl
    have d3 : (((0 : Nat) : Int) == 0) = true := rfl
    go_enter Tryz.func138, Tryz.ntmps138
    go_wp2_with fail
    go_quiet (fail)
    go_wp2
    go_ret2
    exact ⟨⟨_, by rw [wrap_div hl, Nat.zero_mul, Nat.zero_add]; rfl⟩, nq, rfl⟩
  · have d3 : ((hi : Int) == 0) = false := by simpa using h0
    have hlz := zeros_any y w hy
    rw [hz] at hlz
    have HLZ := Lib.hid hlz
    clear hlz
    obtain ⟨y1, y0, hY, hy0⟩ : ∃ y1 y0 : Nat, y = y1 * 4294967296 + y0 ∧ y0 < 4294967296 := ⟨y / 4294967296, y % 4294967296, by omega, by omega⟩
    obtain ⟨u1, u0, hV, hu0⟩ : ∃ u1 u0 : Nat, lo = u1 * 4294967296 + u0 ∧ u0 < 4294967296 := ⟨lo / 4294967296, lo % 4294967296, by omega, by omega⟩
    unfold M at hy hl
    have hu1 : u1 < 4294967296 := by omega
    have hy1 : 2147483648 ≤ y1 := by omega
    have hy1' : y1 < 4294967296 := by omega
    have E1 : (y : Int) / 4294967296 = (y1 : Int) := by omega
    have E2 : bits BinOp.and IntKind.u64 (y : Int) 4294967295 = (y0 : Int) := (maskN y hy).trans (by omega)
    have E3 : bits BinOp.or IntKind.u64 (hi : Int) ((lo : Int) / 18446744073709551616) = (hi : Int) := by
      have e : (lo : Int) / 18446744073709551616 = ((0 : Nat) : Int) := by omega
      rw [e, bits_or_u64_nat _ _ (by omega) (by omega), Nat.or_zero]
    have E4 : (lo : Int) / 4294967296 = (u1 : Int) := by omega
    have E5 : bits BinOp.and IntKind.u64 (lo : Int) 4294967295 = (u0 : Int) := (maskN lo hl).trans (by omega)
    obtain ⟨q1, r1, hq1, hr1, hr1y, hq1B, hU, hm1, hd1, hs1, hs1'⟩ := dig_facts hi u1 y1 y0 y hY hy1 hy0 hh hu1
    obtain ⟨q2, r2, hq2, hr2, hr2y, hq2B, hU2, hm2, hd2, hs2, hs2'⟩ := dig_facts r1 u0 y1 y0 y hY hy1 hy0 hr1y hu0
    have HFIN := Lib.hid (show q1 * 4294967296 + q2 = (hi * M + lo) / y by
      rw [hq2, hr1, hq1, hV]
      exact dig_both (by omega))
    have HU := Lib.hid hU
    have HU2 := Lib.hid hU2
    have HM1 := Lib.hid hm1
    have HM2 := Lib.hid hm2
    have HD1 := Lib.hid hd1
    have HD2 := Lib.hid hd2
    have E6 := wrap_div (a := hi) (b := y1) (by omega)
    have E7 := wrap_rest (a := hi) (b := y1) (by omega)
    have hlt1 := Nat.mod_lt hi (show 0 < y1 by omega)
    have HS1 := Lib.hid (Nat.div_add_mod' hi y1)
    clear hq2 hr1 hq1 hV hY hr2 hm1 hm2 hd1 hd2 hU hU2
    generalize hi / y1 = Q0 at *
    generalize hi % y1 = R0 at *
    go_enter Tryz.func138, Tryz.ntmps138
    go_upto_block 0 with (go_at_call 121; refine HLZ.out.mono ?_; rintro e w' ⟨rfl, rfl⟩)
    clear E3 E4 E5 E6 E7 E2 HLZ
    go_cut [15] (fun s15 wx => w = wx ∧ s15 = .int .u64 (q1 : Int))
    case first =>
      go_wp2_with fail
      go_loopg [15, 16] Q0 (fun g s15 s16 wx => w = wx ∧ ∃ R : Nat, s15 = .int .u64 (g : Int) ∧ s16 = .int .u64 (R : Int) ∧ g * y1 + R = hi ∧ q1 ≤ g ∧ g ≤ 4294967297 ∧ R < 4294967296)
      case atStart => exact ⟨rfl, R0, rfl, rfl, HS1.out, hs1, hs1', by omega⟩
      case round =>
        obtain ⟨rfl, R, rfl, rfl, hQR, hqQ, hQB, hRB⟩ := hrel
        have HQR := Lib.hid hQR
        clear hQR HS1 hs1 hs1' hlt1
        by_cases hc : 4294967296 ≤ gk
        · obtain ⟨g1, g2⟩ := HM1.out gk R HQR.out (.inl hc)
          have c1 : decide (4294967296 ≤ (gk : Int)) = true := by simp; omega
          have c1' : decide (4294967296 ≤ gk) = true := by simpa using hc
          have H1 := Lib.hid (one_less HQR.out g1)
          by_cases hb : 4294967296 ≤ R + y1
          · have hbI : 4294967296 ≤ (R : Int) + (y1 : Int) := by omega
            have hE := HD1.out (gk - 1) (R + y1) H1.out (dig_brk (by omega) hy0 hb) g2
            have HE := Lib.hid hE
            clear hE
            go_wp2
            go_meet
            exact ⟨rfl, congrArg (Value.int .u64) (by rw [← HE.out]; omega)⟩
          · have hbI : ¬ 4294967296 ≤ (R : Int) + (y1 : Int) := by omega
            go_wp2
            go_roundg (gk - 1)
            case measure => omega
            case rel => exact ⟨rfl, R + y1, congrArg (Value.int .u64) (by omega), congrArg (Value.int .u64) (by omega), H1.out, g2, by omega, by omega⟩
        · have c1 : decide (4294967296 ≤ (gk : Int)) = false := by simp; omega
          have c1' : decide (4294967296 ≤ gk) = false := by simpa using hc
          have hP := dig_small (show gk < 4294967296 by omega) hy0
          obtain ⟨P, hPe⟩ : ∃ P, P = gk * y0 := ⟨_, rfl⟩
          rw [← hPe] at hP
          have hw : IntKind.u64.wrap ((gk : Int) * (y0 : Int)) = (P : Int) := by rw [← Int.natCast_mul, ← hPe, IntKind.wrap_u64]; omega
          have HP := Lib.hid hPe
          clear hPe
          by_cases hc2 : 4294967296 * R + u1 < P
          · obtain ⟨g1, g2⟩ := HM1.out gk R HQR.out (.inr (by rw [← HP.out]; exact hc2))
            have H1 := Lib.hid (one_less HQR.out g1)
            have hc2I : 4294967296 * (R : Int) + (u1 : Int) < (P : Int) := by omega
            by_cases hb : 4294967296 ≤ R + y1
            · have hbI : 4294967296 ≤ (R : Int) + (y1 : Int) := by omega
              have hE := HD1.out (gk - 1) (R + y1) H1.out (dig_brk (by omega) hy0 hb) g2
              have HE := Lib.hid hE
              clear hE
              go_wp2
              go_meet
              exact ⟨rfl, congrArg (Value.int .u64) (by rw [← HE.out]; omega)⟩
            · have hbI : ¬ 4294967296 ≤ (R : Int) + (y1 : Int) := by omega
              go_wp2
              go_roundg (gk - 1)
              case measure => omega
              case rel => exact ⟨rfl, R + y1, congrArg (Value.int .u64) (by omega), congrArg (Value.int .u64) (by omega), H1.out, g2, by omega, by omega⟩
          · have hE := HD1.out gk R HQR.out (by rw [← HP.out]; omega) hqQ
            have HE := Lib.hid hE
            clear hE
            have hc2I : ¬ 4294967296 * (R : Int) + (u1 : Int) < (P : Int) := by omega
            go_wp2
            go_meet
            exact ⟨rfl, congrArg (Value.int .u64) (by rw [← HE.out])⟩
    case rest =>
      obtain ⟨rfl, rfl⟩ := hcut
      have E8 : IntKind.u64.wrap (IntKind.u64.wrap (IntKind.u64.wrap ((hi : Int) * 4294967296) + (u1 : Int)) - IntKind.u64.wrap ((q1 : Int) * (y : Int))) = (r1 : Int) := by
        have h := HU.out
        rw [← Int.natCast_mul, IntKind.wrap_u64, IntKind.wrap_u64, IntKind.wrap_u64, IntKind.wrap_u64]
        generalize q1 * y = P at *
        omega
      have E6 := wrap_div (a := r1) (b := y1) (by omega)
      have E7 := wrap_rest (a := r1) (b := y1) (by omega)
      have hlt2 := Nat.mod_lt r1 (show 0 < y1 by omega)
      have HS2 := Lib.hid (Nat.div_add_mod' r1 y1)
      clear HM1 HD1 HS1 hs1 hs1' hlt1
      generalize r1 / y1 = Q1 at *
      generalize r1 % y1 = R1 at *
      go_upto_block 2 with fail
      clear E6 E7 E8
      go_cut [18] (fun s18 wx => w = wx ∧ s18 = .int .u64 (q2 : Int))
      case first =>
        go_wp2_with fail
        go_loopg [18, 16] Q1 (fun g s18 s16 wx => w = wx ∧ ∃ R : Nat, s18 = .int .u64 (g : Int) ∧ s16 = .int .u64 (R : Int) ∧ g * y1 + R = r1 ∧ q2 ≤ g ∧ g ≤ 4294967297 ∧ R < 4294967296)
        case atStart => exact ⟨rfl, R1, rfl, rfl, HS2.out, hs2, hs2', by omega⟩
        case round =>
          obtain ⟨rfl, R, rfl, rfl, hQR, hqQ, hQB, hRB⟩ := hrel
          have HQR := Lib.hid hQR
          clear hQR HS2 hs2 hs2' hlt2
          by_cases hc : 4294967296 ≤ gk
          · obtain ⟨g1, g2⟩ := HM2.out gk R HQR.out (.inl hc)
            have c1 : decide (4294967296 ≤ (gk : Int)) = true := by simp; omega
            have c1' : decide (4294967296 ≤ gk) = true := by simpa using hc
            have H1 := Lib.hid (one_less HQR.out g1)
            by_cases hb : 4294967296 ≤ R + y1
            · have hbI : 4294967296 ≤ (R : Int) + (y1 : Int) := by omega
              have hE := HD2.out (gk - 1) (R + y1) H1.out (dig_brk (by omega) hy0 hb) g2
              have HE := Lib.hid hE
              clear hE
              go_wp2
              go_meet
              exact ⟨rfl, congrArg (Value.int .u64) (by rw [← HE.out]; omega)⟩
            · have hbI : ¬ 4294967296 ≤ (R : Int) + (y1 : Int) := by omega
              go_wp2
              go_roundg (gk - 1)
              case measure => omega
              case rel => exact ⟨rfl, R + y1, congrArg (Value.int .u64) (by omega), congrArg (Value.int .u64) (by omega), H1.out, g2, by omega, by omega⟩
          · have c1 : decide (4294967296 ≤ (gk : Int)) = false := by simp; omega
            have c1' : decide (4294967296 ≤ gk) = false := by simpa using hc
            have hP := dig_small (show gk < 4294967296 by omega) hy0
            obtain ⟨P, hPe⟩ : ∃ P, P = gk * y0 := ⟨_, rfl⟩
            rw [← hPe] at hP
            have hw : IntKind.u64.wrap ((gk : Int) * (y0 : Int)) = (P : Int) := by rw [← Int.natCast_mul, ← hPe, IntKind.wrap_u64]; omega
            have HP := Lib.hid hPe
            clear hPe
            by_cases hc2 : 4294967296 * R + u0 < P
            · obtain ⟨g1, g2⟩ := HM2.out gk R HQR.out (.inr (by rw [← HP.out]; exact hc2))
              have H1 := Lib.hid (one_less HQR.out g1)
              have hc2I : 4294967296 * (R : Int) + (u0 : Int) < (P : Int) := by omega
              by_cases hb : 4294967296 ≤ R + y1
              · have hbI : 4294967296 ≤ (R : Int) + (y1 : Int) := by omega
                have hE := HD2.out (gk - 1) (R + y1) H1.out (dig_brk (by omega) hy0 hb) g2
                have HE := Lib.hid hE
                clear hE
                go_wp2
                go_meet
                exact ⟨rfl, congrArg (Value.int .u64) (by rw [← HE.out]; omega)⟩
              · have hbI : ¬ 4294967296 ≤ (R : Int) + (y1 : Int) := by omega
                go_wp2
                go_roundg (gk - 1)
                case measure => omega
                case rel => exact ⟨rfl, R + y1, congrArg (Value.int .u64) (by omega), congrArg (Value.int .u64) (by omega), H1.out, g2, by omega, by omega⟩
            · have hE := HD2.out gk R HQR.out (by rw [← HP.out]; omega) hqQ
              have HE := Lib.hid hE
              clear hE
              have hc2I : ¬ 4294967296 * (R : Int) + (u0 : Int) < (P : Int) := by omega
              go_wp2
              go_meet
              exact ⟨rfl, congrArg (Value.int .u64) (by rw [← HE.out])⟩
      case rest =>
        obtain ⟨rfl, rfl⟩ := hcut
        go_wp2
        go_ret2
        exact ⟨⟨_, by rw [← HFIN.out]; go_num⟩, 0, rfl⟩

end Go.Proofs.YtjnefacdindamaaGreatDoor


/- long.guess answers a limb that is no less than what two limbs hold of one. Conditions: the divisor's highest bit is set. -/
namespace Go.Proofs.YtjnefacdindamaaGreatDoor
open Go.RowKit Go.Shelf Num
set_option linter.unusedVariables false
set_option maxRecDepth 100000

def guessN (h l d : Nat) : Nat := if d ≤ h then 18446744073709551615 else (h * M + l) / d
theorem guessN_lt {h l d : Nat} (hl : l < M) : guessN h l d < M := by
  unfold guessN
  split
  · unfold M; omega
  · rename_i hd
    refine (Nat.div_lt_iff_lt_mul (by omega)).2 ?_
    have : (h + 1) * M ≤ d * M := Nat.mul_le_mul_right _ (by omega)
    rw [Nat.mul_comm M d]
    rw [Nat.add_mul] at this
    omega
theorem guessN_ge {h l d q : Nat} (hq : q < M) (hg : q ≤ (h * M + l) / d) : q ≤ guessN h l d := by
  unfold guessN
  split
  · unfold M at hq; omega
  · exact hg

set_option maxHeartbeats 1000000 in
theorem guess_any (h l d : Nat) (w : World) (hh : h < M) (hl : l < M) (hd : d < M) (hn : 9223372036854775808 ≤ d) :
    Calls Tryz.prog 132 #[.int .u64 (h : Int), .int .u64 (l : Int), .int .u64 (d : Int)] w fun e w' => e = .returned (.int .u64 ((guessN h l d : Nat) : Int)) ∧ ∃ n, w' = w.drewN n := by
  by_cases hc : d ≤ h
  · have hb : decide (d ≤ h) = true := by simpa using hc
    have HG := Lib.hid (show guessN h l d = 18446744073709551615 by unfold guessN; rw [if_pos hc])
    go_enter Tryz.func132, Tryz.ntmps132
    go_wp2
    go_ret
    exact ⟨ret_int (by rw [HG.out]; rfl), 0, rfl⟩
  · have hb : decide (d ≤ h) = false := by simpa using hc
    have HG := Lib.hid (show guessN h l d = (h * M + l) / d by unfold guessN; rw [if_neg hc])
    go_enter Tryz.func132, Tryz.ntmps132
    go_wp2_with fail
    refine (div64_any h l d w (by omega) hl hd hn).mono ?_
    rintro e W1 ⟨⟨r, rfl⟩, n, rfl⟩
    rw [← HG.out]
    go_wp2
    go_ret
    exact ⟨rfl, n, rfl⟩

end Go.Proofs.YtjnefacdindamaaGreatDoor


/- A row of limbs that a call writes to: what it holds, by the place; what a store leaves; a list that lies elsewhere. No condition but those named. -/
namespace Go.Proofs.YtjnefacdindamaaGreatDoor
open Go.RowKit Go.Shelf Num
set_option linter.unusedVariables false
set_option maxRecDepth 100000

/-- Block g is a row of n limbs, the j-th being f j. -/
def Row (w : World) (g n : Nat) (f : Nat → Nat) : Prop := (∀ j, f j < M) ∧ w.rowIs g 74 n (fun j => .int .u64 ((f j : Nat) : Int))
theorem Row.cell {w : World} {g n : Nat} {f : Nat → Nat} (h : Row w g n f) {j : Nat} (hj : j < n) : w.cell? ⟨g, j, none⟩ = some (.int .u64 ((f j : Nat) : Int)) := h.2.cell hj
theorem Row.frozen {w : World} {g n : Nat} {f : Nat → Nat} (h : Row w g n f) (j : Nat) : w.frozen? ⟨g, j, none⟩ = false := h.2.frozen j
theorem Row.lim {w : World} {g n : Nat} {f : Nat → Nat} (h : Row w g n f) (j : Nat) : f j < M := h.1 j
theorem Row.lt {w : World} {g n : Nat} {f : Nat → Nat} (h : Row w g n f) : g < w.heap.size := h.2.lt
theorem Row.set {w : World} {g n : Nat} {f : Nat → Nat} (h : Row w g n f) (i : Nat) {x : Nat} (hx : x < M) : Row (w.setCell ⟨g, i, none⟩ (.int .u64 (x : Int))) g n (upd f i x) := by
  refine ⟨upd_lt h.1 i hx, (h.2.set i _).congr fun j _ => ?_⟩
  unfold upd
  split <;> rfl
theorem Row.drewN {w : World} {g n : Nat} {f : Nat → Nat} (h : Row w g n f) (k : Nat) : Row (w.drewN k) g n f := h
theorem Row.alloc {w : World} {g n : Nat} {f : Nat → Nat} (h : Row w g n f) (o : Obj) : Row (w.alloc o) g n f := ⟨h.1, h.2.alloc o⟩
theorem Row.of_block {w w' : World} {g n : Nat} {f : Nat → Nat} (h : Row w g n f) (e : w'.heap[g]? = w.heap[g]?) : Row w' g n f := ⟨h.1, h.2.of_block e⟩
theorem Row.below {w w' : World} {g n B : Nat} {f : Nat → Nat} (h : Row w g n f) (hb : Below B w w') (hg : g < B) : Row w' g n f := h.of_block (hb.block g hg)
theorem Row.congr {w : World} {g n : Nat} {f f' : Nat → Nat} (h : Row w g n f) (hf : ∀ j, f' j < M) (e : ∀ j, j < n → f j = f' j) : Row w g n f' := ⟨hf, h.2.congr fun j hj => by rw [e j hj]⟩
theorem row_made (w : World) (n : Nat) : Row (w.alloc (.cells (madeCells #[.int .u64 0] n) 74)) w.heap.size n (fun _ => 0) := ⟨fun _ => M_pos, World.rowIs_made w _ n _⟩

/-- A part of such a row, as a list. -/
theorem Row.part {w : World} {g n : Nat} {f : Nat → Nat} (h : Row w g n f) (n₀ o k cap : Nat) (hg : g < n₀) (hk : o + k ≤ n) (hc : k ≤ cap) : Lim n₀ w (.slice (some ⟨g, o, none⟩) k cap) (upto (fun j => f (o + j)) k) := by
  refine ⟨some ⟨g, o, none⟩, cap, by rw [upto_length], by rw [upto_length]; exact hc, (fun h => by cases h), ok_upto (fun j => h.1 _) k, fun hp => ⟨g, o, rfl, hg, fun j hj => ?_⟩⟩
  rw [upto_length] at hj
  rw [lat_upto _ hj]
  exact h.cell (by omega)
theorem Row.whole {w : World} {g n : Nat} {f : Nat → Nat} (h : Row w g n f) (cap : Nat) (hc : n ≤ cap) : Lim w.heap.size w (.slice (some ⟨g, 0, none⟩) n cap) (upto f n) := by
  have := h.part w.heap.size 0 n cap h.lt (by omega) hc
  simpa using this

/-- A list that lies outside of block g. -/
def Off (g : Nat) (w : World) (v : Value) (xs : List Nat) : Prop :=
  ∃ A cap, v = .slice A xs.length cap ∧ xs.length ≤ cap ∧ Ok xs ∧
    (0 < xs.length → ∃ b off, A = some ⟨b, off, none⟩ ∧ b ≠ g ∧ ∀ j, j < xs.length → w.cell? ⟨b, off + j, none⟩ = some (.int .u64 ((lat xs j : Nat) : Int)))
theorem Lim.off {n₀ : Nat} {w : World} {v : Value} {xs : List Nat} (h : Lim n₀ w v xs) {g : Nat} (hg : n₀ ≤ g) : Off g w v xs := by
  obtain ⟨A, cap, hv, hc, _, ho, hr⟩ := h
  refine ⟨A, cap, hv, hc, ho, fun hp => ?_⟩
  obtain ⟨b, off, hA, hb, hcell⟩ := hr hp
  exact ⟨b, off, hA, by omega, hcell⟩
theorem Off.ok {g : Nat} {w : World} {v : Value} {xs : List Nat} (h : Off g w v xs) : Ok xs := by
  obtain ⟨A, cap, _, _, h, _⟩ := h; exact h
theorem Off.only {g : Nat} {w w' : World} {v : Value} {xs : List Nat} (h : Off g w v xs) (hk : Only g w w') : Off g w' v xs := by
  obtain ⟨A, cap, hv, hc, ho, hr⟩ := h
  refine ⟨A, cap, hv, hc, ho, fun hp => ?_⟩
  obtain ⟨b, off, hA, hb, hcell⟩ := hr hp
  exact ⟨b, off, hA, hb, fun j hj => (World.cell?_of_block (w := w) (hk.block b hb)).trans (hcell j hj)⟩
theorem Row.off {w : World} {g n : Nat} {f : Nat → Nat} (h : Row w g n f) {g' : Nat} (hg : g ≠ g') (o k cap : Nat) (hk : o + k ≤ n) (hc : k ≤ cap) : Off g' w (.slice (some ⟨g, o, none⟩) k cap) (upto (fun j => f (o + j)) k) := by
  refine ⟨some ⟨g, o, none⟩, cap, by rw [upto_length], by rw [upto_length]; exact hc, ok_upto (fun j => h.1 _) k, fun hp => ⟨g, o, rfl, hg, fun j hj => ?_⟩⟩
  rw [upto_length] at hj
  rw [lat_upto _ hj]
  exact h.cell (by omega)

end Go.Proofs.YtjnefacdindamaaGreatDoor


/- What bits.Mul64 answers of two limbs: the library's contract, met at this program's own numbers. Conditions: both below 2^64. -/
namespace Go.Proofs.YtjnefacdindamaaGreatDoor
open Go.RowKit Go.Shelf Num
set_option linter.unusedVariables false
set_option maxRecDepth 100000

def mulRen : Ren := { f := fun | 264 => 104 | n => n, t := fun | 46 => 90 | 53 => 74 | n => n, g := fun n => n }
theorem mulLays : Lays.n264 Tryz.prog mulRen := { mixed := by kernel_rfl, f264 := Tryz.func104.trans (by kernel_rfl), t46 := Tryz.underlying90, a46 := Tryz.isAgg90, z46 := Tryz.sizeOf90, v46 := Tryz.zeroValue90, t53 := Tryz.underlying74, a53 := Tryz.isAgg74, z53 := Tryz.sizeOf74, v53 := Tryz.zeroValue74 }

theorem mul64_any (x y : Nat) (hx : x < M) (hy : y < M) (w : World) :
    Calls Tryz.prog 104 #[.int .u64 (x : Int), .int .u64 (y : Int)] w fun e w' => e = .returned (.tuple #[.int .u64 ((mulHi x y : Nat) : Int), .int .u64 ((mulLo x y : Nat) : Int)]) ∧ w = w' :=
  Calls.mono (Any.bits_Mul64 mulLays x y hx hy w) fun e w' h => ⟨h.1, h.2.symm⟩

end Go.Proofs.YtjnefacdindamaaGreatDoor


/- long.addTimes adds a multiple of a number to limbs that lie in a row, and answers what is carried out. Conditions: the row has room; the number lies elsewhere; lengths below 2^40. -/
namespace Go.Proofs.YtjnefacdindamaaGreatDoor
open Go.RowKit Go.Shelf Num
set_option linter.unusedVariables false
set_option maxRecDepth 100000

theorem wrap_add {a b : Nat} (h : a + b < M) : IntKind.u64.wrap ((a : Int) + (b : Int)) = ((a + b : Nat) : Int) := by
  unfold M at h
  rw [IntKind.wrap_u64]
  omega

set_option maxRecDepth 100000 in
set_option maxHeartbeats 4000000 in
theorem addTimes_any (g n o L cap : Nat) (f : Nat → Nat) (vb : Value) (bs : List Nat) (x : Nat) (w : World) (hR : Row w g n f) (hb : Off g w vb bs) (hL : bs.length ≤ L) (ho : o + L ≤ n) (hcap : L ≤ cap) (hx : x < M) (hlb : bs.length ≤ 1099511627776) (hn : n ≤ 4398046511104) :
    Calls Tryz.prog 114 #[.slice (some ⟨g, o, none⟩) L cap, vb, .int .u64 (x : Int)] w fun e w' => ∃ (c : Nat) (f' : Nat → Nat), e = .returned (.int .u64 (c : Int)) ∧ c < M ∧ Row w' g n f' ∧ Only g w w' ∧
      (∀ j, (j < o ∨ o + bs.length ≤ j) → f' j = f j) ∧ sm f' o bs.length + M ^ bs.length * c = sm f o bs.length + x * val bs := by
  have hob := hb.ok
  obtain ⟨A, cb, rfl, hcb, _, hr⟩ := id hb
  go_enter Tryz.func114, Tryz.ntmps114
  go_wp2
  go_loopw [7, 15] (fun c i wr => ∃ (k cc : Nat) (f' : Nat → Nat), k ≤ bs.length ∧ i = .int .i64 k ∧ c = .int .u64 (cc : Int) ∧ cc < M ∧ Row wr g n f' ∧ Only g w wr ∧
      (∀ j, (j < o ∨ o + k ≤ j) → f' j = f j) ∧ sm f' o k + M ^ k * cc = sm f o k + x * sm (lat bs) 0 k)
    (fun _ i _ => bs.length - (intOf i).toNat)
  case atStart => exact ⟨0, 0, f, Nat.zero_le _, rfl, rfl, M_pos, hR, Only.refl _ _, fun _ _ => rfl, by simp [sm]⟩
  case round =>
    obtain ⟨k, c, f', hk, rfl, rfl, hc, hR', hO, hf, he⟩ := hrel
    have HE := Lib.hid he
    have HF := Lib.hid hf
    clear he hf
    by_cases hlt : k < bs.length
    · obtain ⟨b, off, rfl, hbg, hcell⟩ := hr (by omega)
      have hck : wr.cell? ⟨b, off + k, none⟩ = some (.int .u64 ((lat bs k : Nat) : Int)) := (World.cell?_of_block (w := w) (hO.block b hbg)).trans (hcell k hlt)
      clear hcell hr
      have hcs := hR'.cell (j := o + k) (by omega)
      have hfz := hR'.frozen (o + k)
      have hd : decide (k < bs.length) = true := by simpa using hlt
      have hy := ok_get hob k
      have hs := hR'.lim (o + k)
      obtain ⟨s1, s2, s3⟩ := mul_step hx hy hs hc
      have HS := Lib.hid s3
      clear s3
      have hkL : k < L := by omega
      go_wp2_with fail
      refine (mul64_any x (lat bs k) hx hy _).mono ?_
      rintro e W1 ⟨rfl, rfl⟩
      have ha1 : ∀ w, (callFunc 85 #[.int .u64 ((mulLo x (lat bs k) : Nat) : Int), .int .u64 ((f' (o + k) : Nat) : Int), .int .u64 0]).run Tryz.prog w = _ := fun w => add64 (mulLo x (lat bs k)) (f' (o + k)) 0 (by omega) w
      have ha2 : ∀ w, (callFunc 85 #[.int .u64 ((addLo (mulLo x (lat bs k)) (f' (o + k)) 0 : Nat) : Int), .int .u64 (c : Int), .int .u64 0]).run Tryz.prog w = _ := fun w => add64 (addLo (mulLo x (lat bs k)) (f' (o + k)) 0) c 0 (by omega) w
      go_wp2_with fail
      go_roundw
      case rel =>
        refine ⟨k + 1, mulC x (lat bs k) (f' (o + k)) c, upd f' (o + k) (mulN x (lat bs k) (f' (o + k)) c), by omega, by go_num, ?_, s2, hR'.set _ (addLo_lt _ _ _), hO.set _ _, ?_, ?_⟩
        · rw [wrap_add (a := mulHi x (lat bs k)) s1]; exact congrArg (Value.int .u64) (wrap_add (a := mulC1 x (lat bs k) (f' (o + k))) s2)
        · intro j hj
          rw [upd_other _ _ (by omega)]
          exact HF.out j (by omega)
        · rw [sm_upd_last, sm_succ, sm_succ, Nat.pow_succ, ← HF.out (o + k) (by omega), Nat.zero_add]
          exact add_round HE.out HS.out
      case measure => simp [intOf]; omega
    · obtain rfl : k = bs.length := by omega
      have hd : decide (bs.length < bs.length) = false := by simp
      go_wp2
      go_ret
      exact ⟨c, f', rfl, hc, hR', hO, HF.out, by rw [val_sm bs]; exact HE.out⟩

end Go.Proofs.YtjnefacdindamaaGreatDoor


/- long.takeTimes: takes a multiple of a number from limbs that lie in a row, and tells whether it was more. Conditions: the row has a limb more than the number; the number lies elsewhere; lengths below 2^40. -/
namespace Go.Proofs.YtjnefacdindamaaGreatDoor
open Go.RowKit Go.Shelf Num
set_option linter.unusedVariables false
set_option maxRecDepth 100000

set_option maxRecDepth 100000 in
set_option maxHeartbeats 4000000 in
theorem takeTimes_any (g n o L cap : Nat) (f : Nat → Nat) (vb : Value) (bs : List Nat) (x : Nat) (w : World) (hR : Row w g n f) (hb : Off g w vb bs) (hL : bs.length < L) (ho : o + L ≤ n) (hcap : L ≤ cap) (hx : x < M) (hlb : bs.length ≤ 1099511627776) (hn : n ≤ 4398046511104) :
    Calls Tryz.prog 133 #[.slice (some ⟨g, o, none⟩) L cap, vb, .int .u64 (x : Int)] w fun e w' => ∃ (b : Bool) (f' : Nat → Nat), e = .returned (.bool b) ∧ Row w' g n f' ∧ Only g w w' ∧
      (∀ j, (j < o ∨ o + bs.length + 1 ≤ j) → f' j = f j) ∧ sm f' o (bs.length + 1) + x * val bs = sm f o (bs.length + 1) + M ^ (bs.length + 1) * b.toNat := by
  have hob := hb.ok
  obtain ⟨A, cb, rfl, hcb, _, hr⟩ := id hb
  go_enter Tryz.func133, Tryz.ntmps133
  go_wp2
  go_loopw [7, 16] (fun c i wr => ∃ (k cc : Nat) (f' : Nat → Nat), k ≤ bs.length ∧ i = .int .i64 k ∧ c = .int .u64 (cc : Int) ∧ cc < M ∧ Row wr g n f' ∧ Only g w wr ∧
      (∀ j, (j < o ∨ o + k ≤ j) → f' j = f j) ∧ sm f' o k + x * sm (lat bs) 0 k = sm f o k + M ^ k * cc)
    (fun _ i _ => bs.length - (intOf i).toNat)
  case atStart => exact ⟨0, 0, f, Nat.zero_le _, rfl, rfl, M_pos, hR, Only.refl _ _, fun _ _ => rfl, by simp [sm]⟩
  case round =>
    obtain ⟨k, c, f', hk, rfl, rfl, hc, hR', hO, hf, he⟩ := hrel
    have HE := Lib.hid he
    have HF := Lib.hid hf
    clear he hf
    by_cases hlt : k < bs.length
    · obtain ⟨b, off, rfl, hbg, hcell⟩ := hr (by omega)
      have hck : wr.cell? ⟨b, off + k, none⟩ = some (.int .u64 ((lat bs k : Nat) : Int)) := (World.cell?_of_block (w := w) (hO.block b hbg)).trans (hcell k hlt)
      clear hcell hr
      have hcs := hR'.cell (j := o + k) (by omega)
      have hfz := hR'.frozen (o + k)
      have hd : decide (k < bs.length) = true := by simpa using hlt
      have hy := ok_get hob k
      have hs := hR'.lim (o + k)
      have hkL : k < L := by omega
      obtain ⟨s1, s2, s3⟩ := tak_step hx hy hs hc
      have HS := Lib.hid s3
      clear s3
      go_wp2_with fail
      refine (mul64_any x (lat bs k) hx hy _).mono ?_
      rintro e W1 ⟨rfl, rfl⟩
      have ha1 : ∀ w, (callFunc 85 #[.int .u64 ((mulLo x (lat bs k) : Nat) : Int), .int .u64 (c : Int), .int .u64 0]).run Tryz.prog w = _ := fun w => add64 (mulLo x (lat bs k)) c 0 (by omega) w
      have ha2 : ∀ w, (callFunc 84 #[.int .u64 ((f' (o + k) : Nat) : Int), .int .u64 ((addLo (mulLo x (lat bs k)) c 0 : Nat) : Int), .int .u64 0]).run Tryz.prog w = _ := fun w => sub64 (f' (o + k)) (addLo (mulLo x (lat bs k)) c 0) 0 (by omega) w
      go_wp2_with fail
      go_roundw
      case rel =>
        refine ⟨k + 1, mulHi x (lat bs k) + addHi (mulLo x (lat bs k)) c 0 + subHi (f' (o + k)) (addLo (mulLo x (lat bs k)) c 0) 0, upd f' (o + k) (subLo (f' (o + k)) (addLo (mulLo x (lat bs k)) c 0) 0), by omega, by go_num, (by rw [wrap_add (a := mulHi x (lat bs k)) s1, wrap_add s2]), s2, hR'.set _ (subLo_lt _ _ _), hO.set _ _, ?_, ?_⟩
        · intro j hj
          rw [upd_other _ _ (by omega)]
          exact HF.out j (by omega)
        · rw [sm_upd_last, sm_succ, sm_succ, Nat.pow_succ, ← HF.out (o + k) (by omega), Nat.zero_add]
          exact tak_round HE.out HS.out
      case measure => simp [intOf]; omega
    · obtain rfl : k = bs.length := by omega
      have hd : decide (bs.length < bs.length) = false := by simp
      have hcs := hR'.cell (j := o + bs.length) (by omega)
      have hfz := hR'.frozen (o + bs.length)
      have hs := hR'.lim (o + bs.length)
      have ha2 : ∀ w, (callFunc 84 #[.int .u64 ((f' (o + bs.length) : Nat) : Int), .int .u64 (c : Int), .int .u64 0]).run Tryz.prog w = _ := fun w => sub64 (f' (o + bs.length)) c 0 (by omega) w
      have hsp := sub_split hs hc (Nat.zero_le 1)
      have hle := subHi_le (f' (o + bs.length)) c 0
      have fin : ∀ b : Nat, subHi (f' (o + bs.length)) c 0 = b → sm (upd f' (o + bs.length) (subLo (f' (o + bs.length)) c 0)) o (bs.length + 1) + x * val bs = sm f o (bs.length + 1) + M ^ (bs.length + 1) * b := by
        rintro b rfl
        rw [sm_upd_last, sm_succ, val_sm bs, Nat.pow_succ, ← HF.out (o + bs.length) (by omega)]
        exact tak_last HE.out hsp
      have HFI := Lib.hid fin
      clear hsp fin
      rcases Nat.lt_or_ge 0 (subHi (f' (o + bs.length)) c 0) with h1 | h1
      · have hq : (((subHi (f' (o + bs.length)) c 0 : Nat) : Int) != 0) = true := by simp; omega
        have H1 := Lib.hid (show subHi (f' (o + bs.length)) c 0 = 1 by omega)
        clear h1 hle
        go_wp2
        go_ret
        exact ⟨true, _, rfl, hR'.set _ (subLo_lt _ _ _), hO.set _ _, fun j hj => by rw [upd_other _ _ (by omega)]; exact HF.out j (by omega), HFI.out 1 H1.out⟩
      · have hq : (((subHi (f' (o + bs.length)) c 0 : Nat) : Int) != 0) = false := by simp; omega
        have H1 := Lib.hid (show subHi (f' (o + bs.length)) c 0 = 0 by omega)
        clear h1 hle
        go_wp2
        go_ret
        exact ⟨false, _, rfl, hR'.set _ (subLo_lt _ _ _), hO.set _ _, fun j hj => by rw [upd_other _ _ (by omega)]; exact HF.out j (by omega), HFI.out 0 H1.out⟩

end Go.Proofs.YtjnefacdindamaaGreatDoor


/- long.putBack: adds a number to limbs that lie in a row, and tells whether something is carried out. Conditions: the row has a limb more than the number; the number lies elsewhere; lengths below 2^40. -/
namespace Go.Proofs.YtjnefacdindamaaGreatDoor
open Go.RowKit Go.Shelf Num
set_option linter.unusedVariables false
set_option maxRecDepth 100000

set_option maxRecDepth 100000 in
set_option maxHeartbeats 4000000 in
theorem putBack_any (g n o L cap : Nat) (f : Nat → Nat) (vb : Value) (bs : List Nat) (w : World) (hR : Row w g n f) (hb : Off g w vb bs) (hL : bs.length < L) (ho : o + L ≤ n) (hcap : L ≤ cap) (hlb : bs.length ≤ 1099511627776) (hn : n ≤ 4398046511104) :
    Calls Tryz.prog 134 #[.slice (some ⟨g, o, none⟩) L cap, vb] w fun e w' => ∃ (b : Bool) (f' : Nat → Nat), e = .returned (.bool b) ∧ Row w' g n f' ∧ Only g w w' ∧
      (∀ j, (j < o ∨ o + bs.length + 1 ≤ j) → f' j = f j) ∧ sm f' o (bs.length + 1) + M ^ (bs.length + 1) * b.toNat = sm f o (bs.length + 1) + val bs := by
  have hob := hb.ok
  obtain ⟨A, cb, rfl, hcb, _, hr⟩ := id hb
  go_enter Tryz.func134, Tryz.ntmps134
  go_wp2
  go_loopw [5, 10] (fun c i wr => ∃ (k cc : Nat) (f' : Nat → Nat), k ≤ bs.length ∧ i = .int .i64 k ∧ c = .int .u64 (cc : Int) ∧ cc ≤ 1 ∧ Row wr g n f' ∧ Only g w wr ∧
      (∀ j, (j < o ∨ o + k ≤ j) → f' j = f j) ∧ sm f' o k + M ^ k * cc = sm f o k + sm (lat bs) 0 k)
    (fun _ i _ => bs.length - (intOf i).toNat)
  case atStart => exact ⟨0, 0, f, Nat.zero_le _, rfl, rfl, Nat.zero_le _, hR, Only.refl _ _, fun _ _ => rfl, by simp [sm]⟩
  case round =>
    obtain ⟨k, c, f', hk, rfl, rfl, hc, hR', hO, hf, he⟩ := hrel
    have HE := Lib.hid he
    have HF := Lib.hid hf
    clear he hf
    by_cases hlt : k < bs.length
    · obtain ⟨b, off, rfl, hbg, hcell⟩ := hr (by omega)
      have hck : wr.cell? ⟨b, off + k, none⟩ = some (.int .u64 ((lat bs k : Nat) : Int)) := (World.cell?_of_block (w := w) (hO.block b hbg)).trans (hcell k hlt)
      clear hcell hr
      have hcs := hR'.cell (j := o + k) (by omega)
      have hfz := hR'.frozen (o + k)
      have hd : decide (k < bs.length) = true := by simpa using hlt
      have hy := ok_get hob k
      have hs := hR'.lim (o + k)
      have hkL : k < L := by omega
      have s1 := addHi_le hs hy hc
      have s3 := add_split (f' (o + k)) (lat bs k) c
      have HS := Lib.hid s3
      clear s3
      have ha1 : ∀ w, (callFunc 85 #[.int .u64 ((f' (o + k) : Nat) : Int), .int .u64 ((lat bs k : Nat) : Int), .int .u64 (c : Int)]).run Tryz.prog w = _ := fun w => add64 (f' (o + k)) (lat bs k) c hc w
      go_wp2_with fail
      go_roundw
      case rel =>
        refine ⟨k + 1, addHi (f' (o + k)) (lat bs k) c, upd f' (o + k) (addLo (f' (o + k)) (lat bs k) c), by omega, by go_num, rfl, s1, hR'.set _ (addLo_lt _ _ _), hO.set _ _, ?_, ?_⟩
        · intro j hj
          rw [upd_other _ _ (by omega)]
          exact HF.out j (by omega)
        · rw [sm_upd_last, sm_succ, sm_succ, Nat.pow_succ, ← HF.out (o + k) (by omega), Nat.zero_add]
          exact put_round HE.out HS.out
      case measure => simp [intOf]; omega
    · obtain rfl : k = bs.length := by omega
      have hd : decide (bs.length < bs.length) = false := by simp
      have hcs := hR'.cell (j := o + bs.length) (by omega)
      have hfz := hR'.frozen (o + bs.length)
      have hs := hR'.lim (o + bs.length)
      have ha2 : ∀ w, (callFunc 85 #[.int .u64 ((f' (o + bs.length) : Nat) : Int), .int .u64 0, .int .u64 (c : Int)]).run Tryz.prog w = _ := fun w => add64 (f' (o + bs.length)) 0 c hc w
      have hsp := add_split (f' (o + bs.length)) 0 c
      have hle := addHi_le hs M_pos hc
      have fin : ∀ b : Nat, addHi (f' (o + bs.length)) 0 c = b → sm (upd f' (o + bs.length) (addLo (f' (o + bs.length)) 0 c)) o (bs.length + 1) + M ^ (bs.length + 1) * b = sm f o (bs.length + 1) + val bs := by
        rintro b rfl
        rw [sm_upd_last, sm_succ, val_sm bs, Nat.pow_succ, ← HF.out (o + bs.length) (by omega)]
        exact put_last HE.out hsp
      have HFI := Lib.hid fin
      clear hsp fin
      rcases Nat.lt_or_ge 0 (addHi (f' (o + bs.length)) 0 c) with h1 | h1
      · have hq : (((addHi (f' (o + bs.length)) 0 c : Nat) : Int) != 0) = true := by simp; omega
        have H1 := Lib.hid (show addHi (f' (o + bs.length)) 0 c = 1 by omega)
        clear h1 hle
        go_wp2
        go_ret
        exact ⟨true, _, rfl, hR'.set _ (addLo_lt _ _ _), hO.set _ _, fun j hj => by rw [upd_other _ _ (by omega)]; exact HF.out j (by omega), HFI.out 1 H1.out⟩
      · have hq : (((addHi (f' (o + bs.length)) 0 c : Nat) : Int) != 0) = false := by simp; omega
        have H1 := Lib.hid (show addHi (f' (o + bs.length)) 0 c = 0 by omega)
        clear h1 hle
        go_wp2
        go_ret
        exact ⟨false, _, rfl, hR'.set _ (addLo_lt _ _ _), hO.set _ _, fun j hj => by rw [upd_other _ _ (by omega)]; exact HF.out j (by omega), HFI.out 0 H1.out⟩

end Go.Proofs.YtjnefacdindamaaGreatDoor


/- long.Mul answers the product. Conditions: both slices read as limbs; lengths below 2^40. -/
namespace Go.Proofs.YtjnefacdindamaaGreatDoor
open Go.RowKit Go.Shelf Num
set_option linter.unusedVariables false
set_option maxRecDepth 100000

set_option maxRecDepth 100000 in
set_option maxHeartbeats 4000000 in
theorem mul_any (v u : Value) (xs ys : List Nat) (w : World) (hLa : Lim w.heap.size w v xs) (hLb : Lim w.heap.size w u ys) (hlx : xs.length ≤ 549755813888) (hly : ys.length ≤ 549755813888) :
    Calls Tryz.prog 99 #[v, u] w (Gives (val xs * val ys) w) := by
  obtain ⟨i0, hi, hz0, hz1, hz2⟩ := info_parts infoU
  have hox := hLa.ok
  have hoy := hLb.ok
  obtain ⟨A, ca, rfl, hca, hna, _, hra⟩ := id hLa
  obtain ⟨B, cb, rfl, hcb, hnb, _, hrb⟩ := id hLb
  go_enter Tryz.func99, Tryz.ntmps99
  go_wp2_with (refine wpList_make_row _ rfl _ _ 69 rfl 74 i0 (.int .u64 0) Tryz.underlying69 hi hz0 hz1 rfl .i64 .i64 (xs.length + ys.length) rfl rfl (by rw [hz2]; omega) (by omega) ?_)
  have hR0 := row_made w (xs.length + ys.length)
  have hB0 : Below w.heap.size w (w.alloc (.cells (madeCells #[.int .u64 0] (xs.length + ys.length)) 74)) := (Below.refl _ w).alloc (Nat.le_refl _) _
  generalize w.alloc (.cells (madeCells #[.int .u64 0] (xs.length + ys.length)) 74) = w1 at hR0 hB0 ⊢
  go_loopw [16] (fun i wr => ∃ (k : Nat) (f : Nat → Nat), k ≤ xs.length ∧ i = .int .i64 k ∧ Row wr w.heap.size (xs.length + ys.length) f ∧ Below w.heap.size w wr ∧
      (∀ j, k + ys.length ≤ j → f j = 0) ∧ sm f 0 (k + ys.length) = sm (lat xs) 0 k * val ys)
    (fun i _ => xs.length - (intOf i).toNat)
  case atStart => exact ⟨0, fun _ => 0, Nat.zero_le _, rfl, hR0, hB0, fun _ _ => rfl, by rw [sm_nought (fun _ _ => rfl), sm_zero, Nat.zero_mul]⟩
  case round =>
    obtain ⟨k, f, hk, rfl, hR, hB, hz, he⟩ := hrel
    have HE := Lib.hid he
    have HZ := Lib.hid hz
    clear he hz
    by_cases hlt : k < xs.length
    · obtain ⟨b, off, rfl, hbg, hcell⟩ := hra (by omega)
      have hck : wr.cell? ⟨b, off + k, none⟩ = some (.int .u64 ((lat xs k : Nat) : Int)) := (hB.cell (p := ⟨b, off + k, none⟩) hbg).trans (hcell k hlt)
      clear hcell hra
      have hd : decide (k < xs.length) = true := by simpa using hlt
      have hx := ok_get hox k
      have hc1 : k ≤ xs.length + ys.length := by omega
      have hc2 : (k : Int) ≤ ((xs.length + ys.length : Nat) : Int) := by omega
      have hc3 : (k : Int) ≤ (xs.length : Int) + (ys.length : Int) := by omega
      go_wp2_with fail
      refine (addTimes_any w.heap.size (xs.length + ys.length) k (xs.length + ys.length - k) (xs.length + ys.length - k) f _ ys (lat xs k) wr hR ((hLb.below hB).off (Nat.le_refl _)) (by omega) (by omega) (Nat.le_refl _) hx (by omega) (by omega)).mono ?_
      rintro e W1 ⟨c, f', rfl, hcM, hR1, hO1, hf1, he1⟩
      have HE1 := Lib.hid he1
      have HF1 := Lib.hid hf1
      clear he1 hf1
      have hcs := hR1.cell (j := k + ys.length) (by omega)
      have hfz := hR1.frozen (k + ys.length)
      have hi1 : k + ys.length < xs.length + ys.length := by omega
      have hi2 : (k : Int) + (ys.length : Int) < (xs.length : Int) + (ys.length : Int) := by omega
      have hi3 : ((k + ys.length : Nat) : Int) < ((xs.length + ys.length : Nat) : Int) := by omega
      have hB1 : Below w.heap.size w W1 := hB.trans (hO1.below (Nat.le_refl _))
      go_wp2_with fail
      go_roundw
      case rel =>
        refine ⟨k + 1, upd f' (k + ys.length) c, by omega, by go_num, hR1.set _ hcM, hB1.setCell (p := ⟨w.heap.size, k + ys.length, none⟩) (Nat.le_refl _) _, ?_, ?_⟩
        · intro j hj
          rw [upd_other _ _ (by omega), HF1.out j (by omega)]
          exact HZ.out j (by omega)
        · rw [sm_succ, Nat.zero_add]
          exact mul_outer (fun j hj => HF1.out j (.inl hj)) HE1.out HE.out
      case measure => simp [intOf]; omega
    · obtain rfl : k = xs.length := by omega
      have hd : decide (xs.length < xs.length) = false := by simp
      have hW := hR.whole (xs.length + ys.length) (Nat.le_refl _)
      go_wp2_with fail
      refine (trim_any _ _ _ hW (by rw [upto_length]; omega)).mono ?_
      rintro e W1 ⟨r, rfl, hLr, hBr⟩
      go_wp2
      go_ret
      refine ⟨r, rfl, ?_, hB.trans (hBr.mono hB.size)⟩
      have e : val (upto f (xs.length + ys.length)) = val xs * val ys := by rw [val_upto_sm, HE.out, ← val_sm]
      rw [← e]
      exact hLr

end Go.Proofs.YtjnefacdindamaaGreatDoor
