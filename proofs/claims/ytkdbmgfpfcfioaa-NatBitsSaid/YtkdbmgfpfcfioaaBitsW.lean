/- lodgelaw01.NatBits answers true, whatever list of limbs and whatever number come in, and leaves memory below as it was. No condition. -/
import Derived.Test.YtkdbmgfpfcfioaaLaw
import Derived.Test.YtkdbmgfpfcfioaaRefB
namespace Go.Proofs.Ytkdbmgfpfcfioaa
open Go.RowKit Go.Shelf Num
set_option linter.unusedVariables false

set_option maxRecDepth 100000 in
set_option maxHeartbeats 4000000 in
theorem natBits_big (a0 : Option Addr) (n0 c0 : Nat) (i : Int) (w : World) (h : ¬ n0 ≤ 50) :
    Calls Try.prog 4 #[.slice a0 n0 c0, .int .i64 i] w fun e w' => e = .returned (.bool true) ∧ Below w.heap.size w w' := by
  have HH := Lib.hid h
  clear h
  go_enter Try.func4, Try.ntmps4
  go_wp2_with fail
  refine (small_no _ _ _ _ _ _ _ (fun g => HH.out g.1)).mono ?_
  rintro e w' ⟨rfl, rfl⟩
  go_wp2_with fail
  refine (awake_any _).mono ?_
  rintro e W1 ⟨rfl, hB⟩
  go_wp2
  go_ret
  exact ⟨rfl, hB⟩

set_option maxRecDepth 100000 in
set_option maxHeartbeats 8000000 in
theorem natBits_neg (a0 : Option Addr) (n0 c0 : Nat) (i : Int) (hi : i < 0) (xs : List Nat) (w : World) (h0 : n0 ≤ 50) (e0 : xs.length ≤ 50) (La : Lim w.heap.size w (.slice a0 n0 c0) xs) (i0 : -9223372036854775808 ≤ i) (i1 : i ≤ 9223372036854775807) :
    Calls Try.prog 4 #[.slice a0 n0 c0, .int .i64 i] w fun e w' => e = .returned (.bool true) ∧ Below w.heap.size w w' := by
  have vx := val_50 La.ok e0
  have l1 := limbs_4 (n := 2 * val xs + (i % 2).toNat) (by have := pow_mono (a := 0) (b := 50) (by omega); omega)
  clear vx
  go_enter Try.func4, Try.ntmps4
  go_wp2_with fail
  refine (small_yes _ _ _ _ _ _ _ h0 (by omega)).mono ?_
  rintro e w' ⟨rfl, rfl⟩
  go_wp2_with fail
  refine (awake_any _).mono ?_
  rintro e W1 ⟨rfl, hb⟩
  have B1 := hb
  replace La := La.next hb
  clear hb
  go_wp2_with fail
  refine (bits_any _ _ xs _ La (by omega)).mono ?_
  rintro e w' ⟨rfl, rfl⟩
  go_wp2_with fail
  refine (refBits_any _ xs _ La (by omega)).mono ?_
  rintro e W2 ⟨rfl, hb⟩
  have B2 := B1.trans (hb.mono B1.size)
  replace La := La.next hb
  clear hb B1
  go_wp2_with fail
  refine (bit_neg _ _ _ i _ hi).mono ?_
  rintro e w' ⟨rfl, rfl⟩
  go_wp2_with fail
  refine (refBit_neg _ _ _ i _ hi).mono ?_
  rintro e w' ⟨rfl, rfl⟩
  go_wp2_with fail
  refine (double_any _ xs i _ La (by omega) (by omega) (by omega)).mono ?_
  rintro e W3 ⟨v3, rfl, L3, hb⟩
  have B3 := B2.trans (hb.mono B2.size)
  replace La := La.next hb
  clear hb B2
  go_wp2_with fail
  refine (refDouble_any _ xs i _ La (by omega) (by omega) (by omega)).mono ?_
  rintro e W4 ⟨v4, rfl, L4, hb⟩
  replace L3 := L3.next hb
  have B4 := B3.trans (hb.mono B3.size)
  clear hb B3
  go_wp2_with fail
  refine (equal_any _ _ _ _ L3 L4 (by omega)).mono ?_
  rintro e W5 ⟨rfl, hb⟩
  have B5 := B4.trans (hb.mono B4.size)
  go_wp2
  go_ret
  exact ⟨rfl, B5⟩

set_option maxRecDepth 100000 in
set_option maxHeartbeats 8000000 in
theorem natBits_pos (a0 : Option Addr) (n0 c0 : Nat) (k : Nat) (xs : List Nat) (w : World) (h0 : n0 ≤ 50) (e0 : xs.length ≤ 50) (La : Lim w.heap.size w (.slice a0 n0 c0) xs) (i0 : -9223372036854775808 ≤ (k : Int)) (i1 : (k : Int) ≤ 9223372036854775807) :
    Calls Try.prog 4 #[.slice a0 n0 c0, .int .i64 (k : Int)] w fun e w' => e = .returned (.bool true) ∧ Below w.heap.size w w' := by
  have vx := val_50 La.ok e0
  have l1 := limbs_4 (n := 2 * val xs + ((k : Int) % 2).toNat) (by have := pow_mono (a := 0) (b := 50) (by omega); omega)
  clear vx
  go_enter Try.func4, Try.ntmps4
  go_wp2_with fail
  refine (small_yes _ _ _ _ _ _ _ h0 (by omega)).mono ?_
  rintro e w' ⟨rfl, rfl⟩
  go_wp2_with fail
  refine (awake_any _).mono ?_
  rintro e W1 ⟨rfl, hb⟩
  have B1 := hb
  replace La := La.next hb
  clear hb
  go_wp2_with fail
  refine (bits_any _ _ xs _ La (by omega)).mono ?_
  rintro e w' ⟨rfl, rfl⟩
  go_wp2_with fail
  refine (refBits_any _ xs _ La (by omega)).mono ?_
  rintro e W2 ⟨rfl, hb⟩
  have B2 := B1.trans (hb.mono B1.size)
  replace La := La.next hb
  clear hb B1
  go_wp2_with fail
  refine (bit_any _ _ xs k _ La (by omega)).mono ?_
  rintro e w' ⟨rfl, rfl⟩
  go_wp2_with fail
  refine (refBit_any _ _ xs k _ La (by omega)).mono ?_
  rintro e w' ⟨rfl, rfl⟩
  go_wp2_with fail
  refine (double_any _ xs (k : Int) _ La (by omega) (by omega) (by omega)).mono ?_
  rintro e W3 ⟨v3, rfl, L3, hb⟩
  have B3 := B2.trans (hb.mono B2.size)
  replace La := La.next hb
  clear hb B2
  go_wp2_with fail
  refine (refDouble_any _ xs (k : Int) _ La (by omega) (by omega) (by omega)).mono ?_
  rintro e W4 ⟨v4, rfl, L4, hb⟩
  replace L3 := L3.next hb
  have B4 := B3.trans (hb.mono B3.size)
  clear hb B3
  go_wp2_with fail
  refine (equal_any _ _ _ _ L3 L4 (by omega)).mono ?_
  rintro e W5 ⟨rfl, hb⟩
  have B5 := B4.trans (hb.mono B4.size)
  go_wp2
  go_ret
  exact ⟨rfl, B5⟩

theorem natBits_walk (a0 : Option Addr) (n0 c0 : Nat) (i : Int) (w : World) (h0 : ∃ xs : List Nat, xs.length = n0 ∧ Lim w.heap.size w (.slice a0 n0 c0) xs) (hw : (Lit.int .i64 i).wf = true) :
    Calls Try.prog 4 #[.slice a0 n0 c0, .int .i64 i] w fun e w' => e = .returned (.bool true) ∧ Below w.heap.size w w' := by
  have hi := bounds_i64 hw
  by_cases h : n0 ≤ 50
  · obtain ⟨xs, ex, Lx⟩ := h0
    rcases Int.lt_or_le i 0 with hn | hn
    · exact natBits_neg _ _ _ i hn xs w h (by omega) Lx (by omega) (by omega)
    · obtain ⟨k, rfl⟩ := Int.eq_ofNat_of_zero_le hn
      exact natBits_pos _ _ _ k xs w h (by omega) Lx (by omega) (by omega)
  · exact natBits_big _ _ _ i w h

end Go.Proofs.Ytkdbmgfpfcfioaa
