/- lodgelaw01.NatDoubles answers true, whatever list of limbs comes in, and leaves memory below as it was. No condition. -/
import Derived.Test.YtkdbmgfpfcfioaaLaw
namespace Go.Proofs.Ytkdbmgfpfcfioaa
open Go.RowKit Go.Shelf Num
set_option linter.unusedVariables false

set_option maxRecDepth 100000 in
set_option maxHeartbeats 4000000 in
theorem natDoubles_big (a0 : Option Addr) (n0 c0 : Nat) (w : World) (h : ¬ n0 ≤ 50) :
    Calls Try.prog 7 #[.slice a0 n0 c0] w fun e w' => e = .returned (.bool true) ∧ Below w.heap.size w w' := by
  have HH := Lib.hid h
  clear h
  go_enter Try.func7, Try.ntmps7
  go_wp2_with fail
  refine (small_no _ _ _ _ _ _ _ (fun g => HH.out g.1)).mono ?_
  rintro e w' ⟨rfl, rfl⟩
  go_wp2_with fail
  refine (awake_any _).mono ?_
  rintro e W1 ⟨rfl, hB⟩
  go_wp2
  go_ret
  exact ⟨rfl, hB⟩

theorem val_one : val [1] = 1 := by decide +kernel
theorem bit_zero (n : Nat) : bitN (2 * n + 1) 0 = 1 := by unfold bitN; omega
theorem two_zero : ((0 : Int) % 2).toNat = 0 := by decide
theorem two_one : ((1 : Int) % 2).toNat = 1 := by decide

set_option maxRecDepth 100000 in
set_option maxHeartbeats 8000000 in
theorem natDoubles_zero (a0 : Option Addr) (n0 c0 : Nat) (xs : List Nat) (w : World) (h0 : n0 ≤ 50) (e0 : xs.length ≤ 50) (La : Lim w.heap.size w (.slice a0 n0 c0) xs) (hz : val xs = 0) :
    Calls Try.prog 7 #[.slice a0 n0 c0] w fun e w' => e = .returned (.bool true) ∧ Below w.heap.size w w' := by
  have vx := val_50 La.ok e0
  have HX := Lib.hid vx
  have HZ := Lib.hid hz
  have l1 := limbs_4 (n := 2 * val xs) (by omega)
  have l2 := limbs_4 (n := 2 * val xs + 1) (by have := pow_mono (a := 0) (b := 50) (by omega); omega)
  have hnb1 : nbits (val xs) ≤ 64 * 50 := nbits_val La.ok e0
  have hnb : nbits (val xs) ≤ 3200 := by omega
  have hn0 : nbits (val xs) = 0 := by rw [hz]; rfl
  have hd : decide (0 < nbits (val xs)) = false := by rw [hn0]; rfl
  have HN := Lib.hid (show nbits (2 * val xs) = nbits (val xs) by rw [hz])
  clear hn0
  clear hz vx
  go_enter Try.func7, Try.ntmps7
  go_wp2_with fail
  refine (small_yes _ _ _ _ _ _ _ h0 (by omega)).mono ?_
  rintro e w' ⟨rfl, rfl⟩
  go_wp2_with fail
  refine (double_any _ xs 0 _ La (by omega) (by omega) (by omega)).mono ?_
  rintro e W1 ⟨vd, rfl, Ld, hb⟩
  rw [two_zero, Nat.add_zero] at Ld
  have B1 := hb
  replace La := La.next hb
  clear hb
  go_wp2_with fail
  refine (double_any _ xs 1 _ La (by omega) (by omega) (by omega)).mono ?_
  rintro e W2 ⟨ve, rfl, Le, hb⟩
  rw [two_one] at Le
  have B2 := B1.trans (hb.mono B1.size)
  replace La := La.next hb
  replace Ld := Ld.next hb
  clear hb B1
  go_wp2_with fail
  refine (bits_any _ _ xs _ La (by omega)).mono ?_
  rintro e w' ⟨rfl, rfl⟩
  go_wp2_with fail
  refine (awake_any _).mono ?_
  rintro e W3 ⟨rfl, hb⟩
  have B3 := B2.trans (hb.mono B2.size)
  replace La := La.next hb
  replace Ld := Ld.next hb
  replace Le := Le.next hb
  clear hb B2
  go_wp2_with fail
  refine (add_any _ _ xs xs _ La La (by omega) (by omega)).mono ?_
  rintro e W4 ⟨v4, rfl, L4, hb⟩
  rw [← Nat.two_mul] at L4
  have B4 := B3.trans (hb.mono B3.size)
  replace La := La.next hb
  replace Ld := Ld.next hb
  replace Le := Le.next hb
  clear hb B3
  go_wp2_with fail
  refine (equal_any _ _ _ _ Ld L4 (by omega)).mono ?_
  rintro e W5 ⟨rfl, hb⟩
  have B5 := B4.trans (hb.mono B4.size)
  replace Ld := Ld.next hb
  replace Le := Le.next hb
  clear hb B4 L4 La
  go_wp2_with fail
  refine (add_any _ _ _ [1] _ (Ld.alloc _) (lim_lit1 _ 1 (small_ok (by omega))) (by omega) (by simp)).mono ?_
  rintro e W6 ⟨v6, rfl, L6, hb⟩
  rw [val_limbs, val_one] at L6
  have B6 := (B5.alloc B5.size _).trans (hb.mono (by have := B5.size; simp; omega))
  replace Ld := (Ld.alloc _).next hb
  replace Le := (Le.alloc _).next hb
  clear hb B5
  go_wp2_with fail
  refine (equal_any _ _ _ _ Le L6 (by omega)).mono ?_
  rintro e W7 ⟨rfl, hb⟩
  have B7 := B6.trans (hb.mono B6.size)
  replace Ld := Ld.next hb
  replace Le := Le.next hb
  clear hb B6 L6
  go_wp2_with fail
  have q1 := bits_any _ _ _ _ Ld (by omega)
  rw [val_limbs] at q1
  rw [HN.out] at q1
  refine q1.mono ?_
  clear q1
  rintro e w' ⟨rfl, rfl⟩
  go_wp2_with fail
  have q2 := bit_any _ _ _ 0 _ Le (by omega)
  rw [val_limbs, bit_zero] at q2
  refine q2.mono ?_
  clear q2
  rintro e w' ⟨rfl, rfl⟩
  go_wp2
  go_ret
  exact ⟨rfl, B7⟩

set_option maxRecDepth 100000 in
set_option maxHeartbeats 8000000 in
theorem natDoubles_pos (a0 : Option Addr) (n0 c0 : Nat) (xs : List Nat) (w : World) (h0 : n0 ≤ 50) (e0 : xs.length ≤ 50) (La : Lim w.heap.size w (.slice a0 n0 c0) xs) (hz : val xs ≠ 0) :
    Calls Try.prog 7 #[.slice a0 n0 c0] w fun e w' => e = .returned (.bool true) ∧ Below w.heap.size w w' := by
  have vx := val_50 La.ok e0
  have HX := Lib.hid vx
  have HZ := Lib.hid hz
  have l1 := limbs_4 (n := 2 * val xs) (by omega)
  have l2 := limbs_4 (n := 2 * val xs + 1) (by have := pow_mono (a := 0) (b := 50) (by omega); omega)
  have hnb1 : nbits (val xs) ≤ 64 * 50 := nbits_val La.ok e0
  have hnb : nbits (val xs) ≤ 3200 := by omega
  have hn1 : nbits (2 * val xs) = nbits (val xs) + 1 := by
    have := nbits_double hz 0 (by omega)
    simpa using this
  have hn0 : 0 < nbits (val xs) := by unfold nbits; rw [if_neg hz]; omega
  have hd : decide (0 < nbits (val xs)) = true := by simpa using hn0
  have HN := Lib.hid hn1
  clear hn1
  clear hz vx
  go_enter Try.func7, Try.ntmps7
  go_wp2_with fail
  refine (small_yes _ _ _ _ _ _ _ h0 (by omega)).mono ?_
  rintro e w' ⟨rfl, rfl⟩
  go_wp2_with fail
  refine (double_any _ xs 0 _ La (by omega) (by omega) (by omega)).mono ?_
  rintro e W1 ⟨vd, rfl, Ld, hb⟩
  rw [two_zero, Nat.add_zero] at Ld
  have B1 := hb
  replace La := La.next hb
  clear hb
  go_wp2_with fail
  refine (double_any _ xs 1 _ La (by omega) (by omega) (by omega)).mono ?_
  rintro e W2 ⟨ve, rfl, Le, hb⟩
  rw [two_one] at Le
  have B2 := B1.trans (hb.mono B1.size)
  replace La := La.next hb
  replace Ld := Ld.next hb
  clear hb B1
  go_wp2_with fail
  refine (bits_any _ _ xs _ La (by omega)).mono ?_
  rintro e w' ⟨rfl, rfl⟩
  go_wp2_with fail
  refine (awake_any _).mono ?_
  rintro e W3 ⟨rfl, hb⟩
  have B3 := B2.trans (hb.mono B2.size)
  replace La := La.next hb
  replace Ld := Ld.next hb
  replace Le := Le.next hb
  clear hb B2
  go_wp2_with fail
  refine (add_any _ _ xs xs _ La La (by omega) (by omega)).mono ?_
  rintro e W4 ⟨v4, rfl, L4, hb⟩
  rw [← Nat.two_mul] at L4
  have B4 := B3.trans (hb.mono B3.size)
  replace La := La.next hb
  replace Ld := Ld.next hb
  replace Le := Le.next hb
  clear hb B3
  go_wp2_with fail
  refine (equal_any _ _ _ _ Ld L4 (by omega)).mono ?_
  rintro e W5 ⟨rfl, hb⟩
  have B5 := B4.trans (hb.mono B4.size)
  replace Ld := Ld.next hb
  replace Le := Le.next hb
  clear hb B4 L4 La
  go_wp2_with fail
  refine (add_any _ _ _ [1] _ (Ld.alloc _) (lim_lit1 _ 1 (small_ok (by omega))) (by omega) (by simp)).mono ?_
  rintro e W6 ⟨v6, rfl, L6, hb⟩
  rw [val_limbs, val_one] at L6
  have B6 := (B5.alloc B5.size _).trans (hb.mono (by have := B5.size; simp; omega))
  replace Ld := (Ld.alloc _).next hb
  replace Le := (Le.alloc _).next hb
  clear hb B5
  go_wp2_with fail
  refine (equal_any _ _ _ _ Le L6 (by omega)).mono ?_
  rintro e W7 ⟨rfl, hb⟩
  have B7 := B6.trans (hb.mono B6.size)
  replace Ld := Ld.next hb
  replace Le := Le.next hb
  clear hb B6 L6
  go_wp2_with fail
  have q1 := bits_any _ _ _ _ Ld (by omega)
  rw [val_limbs] at q1
  rw [HN.out] at q1
  have hq : ((((nbits (val xs) + 1 : Nat) : Int)) == ((nbits (val xs) : Nat) : Int) + 1) = true := by simp
  refine q1.mono ?_
  clear q1
  rintro e w' ⟨rfl, rfl⟩
  go_wp2_with fail
  have q2 := bit_any _ _ _ 0 _ Le (by omega)
  rw [val_limbs, bit_zero] at q2
  refine q2.mono ?_
  clear q2
  rintro e w' ⟨rfl, rfl⟩
  go_wp2
  go_ret
  exact ⟨rfl, B7⟩

theorem natDoubles_walk (a0 : Option Addr) (n0 c0 : Nat) (w : World) (h0 : ∃ xs : List Nat, xs.length = n0 ∧ Lim w.heap.size w (.slice a0 n0 c0) xs) :
    Calls Try.prog 7 #[.slice a0 n0 c0] w fun e w' => e = .returned (.bool true) ∧ Below w.heap.size w w' := by
  by_cases h : n0 ≤ 50
  · obtain ⟨xs, ex, Lx⟩ := h0
    by_cases hz : val xs = 0
    · exact natDoubles_zero _ _ _ xs w h (by omega) Lx hz
    · exact natDoubles_pos _ _ _ xs w h (by omega) Lx hz
  · exact natDoubles_big _ _ _ _ h

end Go.Proofs.Ytkdbmgfpfcfioaa
