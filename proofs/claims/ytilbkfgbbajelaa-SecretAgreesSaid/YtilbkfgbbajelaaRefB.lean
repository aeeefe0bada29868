/- The document's own answers for layer 1 (package lodgeref01), by the numbers that the limbs are: Bits, Bit, Double. Conditions: the slices read as limbs; lengths below 2^40. -/
import Derived.Test.YtilbkfgbbajelaaRef
import Derived.Laws.Bits64b
namespace Go.Proofs.Ytilbkfgbbajelaa
open Go.RowKit Go.Shelf Num
set_option linter.unusedVariables false

set_option maxHeartbeats 1000000 in
theorem refBits_any (v : Value) (xs : List Nat) (w : World) (hL : Lim w.heap.size w v xs) (hlx : xs.length ≤ 1099511627776) :
    Calls Try.prog 58 #[v] w fun e W' => e = .returned (.int .i64 ((nbits (val xs) : Nat) : Int)) ∧ Below w.heap.size w W' := by
  have ho := hL.ok
  obtain ⟨A, ca, rfl, _⟩ := id hL
  have hlen : (limbs (val xs)).length ≤ 1099511627776 := by
    rw [limbs_val ho]
    have := hgt_le xs
    unfold hgt at this
    omega
  go_enter Try.func58, Try.ntmps58
  go_wp2_with fail
  refine (refTrim_any _ xs _ hL (by omega)).mono ?_
  rintro e W1 ⟨r, rfl, hR, hB⟩
  have hv := val_limbs (val xs)
  have ht := trim_limbs (val xs)
  have hol := ok_limbs (val xs)
  generalize limbs (val xs) = L at *
  rcases Nat.eq_zero_or_pos L.length with h0 | hp
  · have hL0 : L = [] := List.eq_nil_of_length_eq_zero h0
    subst hL0
    have HV := Lib.hid (show nbits (val xs) = 0 by rw [← hv]; rfl)
    obtain ⟨A1, c1, rfl, _⟩ := hR
    clear hv ht
    go_wp2
    go_ret
    exact ⟨ret_int (by rw [HV.out]; rfl), hB⟩
  · obtain ⟨j, hj⟩ : ∃ j, L.length = j + 1 := ⟨L.length - 1, by omega⟩
    obtain ⟨e1, e2, e3⟩ := nbits_limbs L hol j (by unfold hgt; rw [ht]; exact hj)
    rw [hv] at e1
    have E1 := Lib.hid e1
    have hnb := nbits_lim (ok_get hol j)
    have hlim := ok_get hol j
    obtain ⟨b, off, cap, rfl, hcap, hb, hcell⟩ := hR.at_ hp
    have hck := hcell j e3
    rw [hj] at hcap ⊢
    clear hcell hv ht e1 e2 hR hp
    have hd : (((j : Int) + 1) == 0) = false := by simp; omega
    go_wp2_with fail
    refine (len64_any _ _ hlim).mono ?_
    rintro e w' ⟨rfl, rfl⟩
    go_wp2
    go_ret
    exact ⟨ret_int (by rw [E1.out]; omega), hB⟩

set_option maxHeartbeats 1000000 in
theorem refBit_neg (A : Option Addr) (n c : Nat) (i : Int) (w : World) (hi : i < 0) :
    Calls Try.prog 60 #[.slice A n c, .int .i64 i] w fun e w' => e = .returned (.int .i64 0) ∧ w = w' := by
  go_enter Try.func60, Try.ntmps60
  go_wp2
  go_ret
  exact ⟨rfl, rfl⟩

set_option maxHeartbeats 1000000 in
theorem refBit_any (n₀ : Nat) (v : Value) (xs : List Nat) (k : Nat) (w : World) (hL : Lim n₀ w v xs) (hk : (k : Int) ≤ 9223372036854775807) :
    Calls Try.prog 60 #[v, .int .i64 (k : Int)] w fun e w' => e = .returned (.int .i64 ((bitN (val xs) k : Nat) : Int)) ∧ w = w' := by
  have ho := hL.ok
  have HB := Lib.hid (bitN_limb xs ho k)
  obtain ⟨A, ca, rfl, _⟩ := id hL
  go_enter Try.func60, Try.ntmps60
  go_wp2_with fail
  have e1 : (k : Int) / 64 = ((k / 64 : Nat) : Int) := by omega
  rw [e1]
  refine (limb_any n₀ _ xs (k / 64) _ hL).mono ?_
  rintro e w' ⟨rfl, rfl⟩
  clear e1
  go_wp2
  go_ret
  exact ⟨ret_int (by rw [← HB.out]; exact bit_form _ _ (ok_get ho _)), rfl⟩

theorem low_bit_i64 (b : Int) : IntKind.u64.wrap (bits BinOp.and IntKind.i64 b 1) = (((b % 2).toNat : Nat) : Int) := by
  have h1 : (BitVec.ofInt 64 b).toNat = (b % 18446744073709551616).toNat := by rw [BitVec.toNat_ofInt]; rfl
  have h2 : (BitVec.ofInt 64 1).toNat = 1 := by decide
  have e : bits BinOp.and IntKind.i64 b 1 = IntKind.i64.wrap ((BitVec.ofInt 64 b &&& BitVec.ofInt 64 1).toNat : Int) := rfl
  rw [e, BitVec.toNat_and, h1, h2, Nat.and_one_is_mod]
  have h3 : ((b % 18446744073709551616).toNat % 2) = (b % 2).toNat := by omega
  rw [h3, IntKind.wrap_i64, IntKind.wrap_u64]
  omega

/-- Twice a limb and a bit more, as the document reckons it. -/
theorem dbl_lo {x c : Nat} (hx : x < M) (hc : c ≤ 1) : bits BinOp.or IntKind.u64 (((2 * x % M : Nat)) : Int) (c : Int) = ((addLo x x c : Nat) : Int) := by
  unfold M at hx
  have h1 : 2 * x % M < 18446744073709551616 := Nat.mod_lt _ M_pos
  rw [bits_or_u64_nat _ _ h1 (by omega)]
  have h2 : 2 * x % M = 2 ^ 1 * (x % 9223372036854775808) := by unfold M; omega
  rw [h2, ← Nat.two_pow_add_eq_or_of_lt (by omega)]
  unfold addLo M
  omega
theorem dbl_hi {x c : Nat} (hx : x < M) (hc : c ≤ 1) : x / 9223372036854775808 = addHi x x c := by
  unfold addHi
  unfold M at hx ⊢
  omega

set_option maxRecDepth 100000 in
set_option maxHeartbeats 4000000 in
theorem refDouble_any (v : Value) (xs : List Nat) (b : Int) (w : World) (hL : Lim w.heap.size w v xs) (hlx : xs.length ≤ 1099511627776) (hb0 : -9223372036854775808 ≤ b) (hb1 : b ≤ 9223372036854775807) :
    Calls Try.prog 61 #[v, .int .i64 b] w (Gives (2 * val xs + (b % 2).toNat) w) := by
  have hx := hL.ok
  have hc0 : (b % 2).toNat ≤ 1 := by omega
  obtain ⟨A, ca, rfl, hca, hn, _, hr⟩ := id hL
  go_enter Try.func61, Try.ntmps61
  go_wp2
  rw [low_bit_i64]
  generalize hbc : (b % 2).toNat = c0 at *
  go_loopw [5, 6, 7] (fun o c i wr => ∃ (k : Nat) (L : List Nat) (cc : Nat), k ≤ xs.length ∧ i = .int .i64 k ∧ c = .int .u64 (cc : Int) ∧ addF c0 (upto (pairAt xs xs hx hx) k) = (L, cc) ∧
      wr.ownsRow w.heap.size 32 1 o L.length (Us L) ∧ Below w.heap.size w wr)
    (fun _ _ i _ => xs.length - (intOf i).toNat)
  case atStart => exact ⟨0, [], c0, Nat.zero_le _, rfl, rfl, rfl, World.ownsRow_nil _ _ _ _, Below.refl _ _⟩
  case round =>
    obtain ⟨k, L, c, hk, rfl, rfl, hP, own, hB⟩ := hrel
    obtain ⟨i1, i2, i3, i4⟩ := addF_inv hc0 (upto (pairAt xs xs hx hx) k)
    rw [upto_length, hP] at i2
    rw [hP] at i1 i3
    dsimp only at i1 i2 i3
    clear i4
    by_cases hlt : k < xs.length
    · have hsn := addF_upto c0 xs xs hx hx k
      rw [hP] at hsn
      have HS := Lib.hid hsn
      clear hsn hP
      have hll : L.length ≤ k := by omega
      clear i2
      obtain ⟨bb, off, rfl, hbb, hcell⟩ := hr (by omega)
      have hcw := hcell k hlt
      have hck := (hB.cell (p := ⟨bb, off + k, none⟩) hbb).trans hcw
      clear hcell hr
      have hlx' := ok_get hx k
      have hd : decide (k < xs.length) = true := by simpa using hlt
      have hi : (k : Int) < (xs.length : Int) := by omega
      have hlo : bits BinOp.or IntKind.u64 (IntKind.u64.wrap (((lat xs k : Nat) : Int) * 2)) (c : Int) = ((addLo (lat xs k) (lat xs k) c : Nat) : Int) := by
        rw [← dbl_lo hlx' i1]
        congr 1
        rw [IntKind.wrap_u64]
        unfold M
        omega
      have hll2 := addLo_lt (lat xs k) (lat xs k) c
      go_wp2_with (at_builtin; refine append_lim _ (by rfl) (.tmp 17) (.tmp 25) rfl w.heap.size u5 L.length (Us L) rfl (own.alloc _) _ (some ⟨wr.heap.size, 0, none⟩) 1 1 [addLo (lat xs k) (lat xs k) c] rfl (lim_lit1 wr _ hll2) (by omega) (by have := hB.size; simp; omega) ?_; intro v1 w1 own1 grow1; have b1 : Below w.heap.size w w1 := (hB.alloc hB.size _).grown grow1 (by have := hB.size; simp; omega) (fun k e => (own.lt k e).1); have hck1 := (b1.cell (p := ⟨bb, off + k, none⟩) hbb).trans hcw)
      go_roundw
      case rel => exact ⟨k + 1, _, _, by omega, by go_num, congrArg (Value.int .u64) (by rw [← dbl_hi hlx' i1]; omega), HS.out, by rw [Us_append, List.length_append]; exact own1, b1⟩
      case measure => simp [intOf]; omega
    · obtain rfl : k = xs.length := by omega
      have hll : L.length ≤ xs.length := by omega
      have ht := addF_total hc0 (upto (pairAt xs xs hx hx) xs.length)
      rw [av_upto xs xs hx hx _ (by omega), bv_upto xs xs hx hx _ (by omega), hP] at ht
      have hc1 : c < M := Nat.lt_of_le_of_lt i1 (by decide)
      have hok := ok_append i3 (ok_one hc1)
      have HT := Lib.hid (ht.trans (limbs_val hok).symm)
      clear ht hP i1 hr
      have hd : decide (xs.length < xs.length) = false := by simp
      go_wp2_with (at_builtin; refine append_lim _ (by rfl) (.tmp 32) (.tmp 34) rfl w.heap.size u5 L.length (Us L) rfl (own.alloc _) _ (some ⟨wr.heap.size, 0, none⟩) 1 1 [c] rfl (lim_lit1 wr c hc1) (by omega) (by have := hB.size; simp; omega) ?_; intro v1 w1 own1 grow1)
      have b1 : Below w.heap.size w w1 := (hB.alloc hB.size _).grown grow1 (by have := hB.size; simp; omega) (fun k e => (own.lt k e).1)
      have own2 : w1.ownsRow w.heap.size 32 1 v1 (L.length + 1) (Us (L ++ [c])) := by rw [Us_append]; exact own1
      have Lv := Lim.of_own own2 hok (Nat.le_refl _)
      clear own1 grow1
      refine (refTrim_any _ (L ++ [c]) _ Lv (by simp; omega)).mono ?_
      rintro e W2 ⟨r, rfl, hR, hb⟩
      go_wp2
      go_ret
      exact ⟨r, rfl, by rw [Nat.two_mul, HT.out]; exact hR, b1.trans (hb.mono b1.size)⟩

end Go.Proofs.Ytilbkfgbbajelaa
