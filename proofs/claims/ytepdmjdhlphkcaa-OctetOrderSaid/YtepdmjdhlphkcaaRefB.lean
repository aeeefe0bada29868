/- The document's own answers for layer 1 (package lodgeref01), by the numbers that the limbs are: Bits, Bit, Double. Conditions: the slices read as limbs; lengths below 2^40. -/
import Derived.Test.YtepdmjdhlphkcaaRef
import Derived.Laws.Bits64b
namespace Go.Proofs.Ytepdmjdhlphkcaa
open Go.RowKit Go.Shelf Num
set_option linter.unusedVariables false

set_option maxHeartbeats 1000000 in
theorem refBits_any (v : Value) (xs : List Nat) (w : World) (hL : Lim w.heap.size w v xs) (hlx : xs.length ≤ 1099511627776) :
    Calls Try.prog 14 #[v] w fun e W' => e = .returned (.int .i64 ((nbits (val xs) : Nat) : Int)) ∧ Below w.heap.size w W' := by
  have ho := hL.ok
  obtain ⟨A, ca, rfl, _⟩ := id hL
  have hlen : (limbs (val xs)).length ≤ 1099511627776 := by
    rw [limbs_val ho]
    have := hgt_le xs
    unfold hgt at this
    omega
  go_enter Try.func14, Try.ntmps14
  go_wp2_with fail
  refine (refTrim_any _ xs _ hL (by omega)).mono ?_
  rintro e W1 ⟨r, rfl, hR, hB⟩
  have hv := val_limbs (val xs)
  have ht := trim_limbs (val xs)
  have hol := ok_limbs (val xs)
  generalize limbs (val xs) = L at *
  rcases Nat.eq_zero_or_pos L.length with h0 | hp
  · have hL0 : L = [] := List.eq_nil_of_length_eq_zero h0
    subst hL0
    have HV := Lib.hid (show nbits (val xs) = 0 by rw [← hv]; rfl)
    obtain ⟨A1, c1, rfl, _⟩ := hR
    clear hv ht
    go_wp2
    go_ret
    exact ⟨ret_int (by rw [HV.out]; rfl), hB⟩
  · obtain ⟨j, hj⟩ : ∃ j, L.length = j + 1 := ⟨L.length - 1, by omega⟩
    obtain ⟨e1, e2, e3⟩ := nbits_limbs L hol j (by unfold hgt; rw [ht]; exact hj)
    rw [hv] at e1
    have E1 := Lib.hid e1
    have hnb := nbits_lim (ok_get hol j)
    have hlim := ok_get hol j
    obtain ⟨b, off, cap, rfl, hcap, hb, hcell⟩ := hR.at_ hp
    have hck := hcell j e3
    rw [hj] at hcap ⊢
    clear hcell hv ht e1 e2 hR hp
    have hd : (((j : Int) + 1) == 0) = false := by simp; omega
    go_wp2_with fail
    refine (len64_any _ _ hlim).mono ?_
    rintro e w' ⟨rfl, rfl⟩
    go_wp2
    go_ret
    exact ⟨ret_int (by rw [E1.out]; omega), hB⟩


theorem low_bit_i64 (b : Int) : IntKind.u64.wrap (bits BinOp.and IntKind.i64 b 1) = (((b % 2).toNat : Nat) : Int) := by
  have h1 : (BitVec.ofInt 64 b).toNat = (b % 18446744073709551616).toNat := by rw [BitVec.toNat_ofInt]; rfl
  have h2 : (BitVec.ofInt 64 1).toNat = 1 := by decide
  have e : bits BinOp.and IntKind.i64 b 1 = IntKind.i64.wrap ((BitVec.ofInt 64 b &&& BitVec.ofInt 64 1).toNat : Int) := rfl
  rw [e, BitVec.toNat_and, h1, h2, Nat.and_one_is_mod]
  have h3 : ((b % 18446744073709551616).toNat % 2) = (b % 2).toNat := by omega
  rw [h3, IntKind.wrap_i64, IntKind.wrap_u64]
  omega

/-- Twice a limb and a bit more, as the document reckons it. -/
theorem dbl_lo {x c : Nat} (hx : x < M) (hc : c ≤ 1) : bits BinOp.or IntKind.u64 (((2 * x % M : Nat)) : Int) (c : Int) = ((addLo x x c : Nat) : Int) := by
  unfold M at hx
  have h1 : 2 * x % M < 18446744073709551616 := Nat.mod_lt _ M_pos
  rw [bits_or_u64_nat _ _ h1 (by omega)]
  have h2 : 2 * x % M = 2 ^ 1 * (x % 9223372036854775808) := by unfold M; omega
  rw [h2, ← Nat.two_pow_add_eq_or_of_lt (by omega)]
  unfold addLo M
  omega
theorem dbl_hi {x c : Nat} (hx : x < M) (hc : c ≤ 1) : x / 9223372036854775808 = addHi x x c := by
  unfold addHi
  unfold M at hx ⊢
  omega


end Go.Proofs.Ytepdmjdhlphkcaa
