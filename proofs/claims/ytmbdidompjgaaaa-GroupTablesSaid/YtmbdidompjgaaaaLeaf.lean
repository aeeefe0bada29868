/- What the small functions answer: limbAt, height, limb, cmp.Compare at uint64, small, equal. Conditions: the slices read as lists of limbs; lengths below 2^40. -/
import Derived.Test.YtmbdidompjgaaaaBase
namespace Go.Proofs.Ytmbdidompjgaaaa
open Go.RowKit Go.Shelf Num
set_option linter.unusedVariables false

theorem ret_u64 {a b : Nat} (h : a = b) : Ending.returned (.int .u64 (a : Int)) = .returned (.int .u64 (b : Int)) := by rw [h]
theorem ret_int {k : IntKind} {a b : Int} (h : a = b) : Ending.returned (.int k a) = .returned (.int k b) := by rw [h]

set_option maxHeartbeats 400000 in
theorem limbAt_any (n₀ : Nat) (v : Value) (xs : List Nat) (k : Nat) (w : World) (hL : Lim n₀ w v xs) :
    Calls Try.prog 65 #[v, .int .i64 (k : Int)] w fun e w' => e = .returned (.int .u64 ((lat xs k : Nat) : Int)) ∧ w = w' := by
  by_cases hk : k < xs.length
  · obtain ⟨b, off, cap, rfl, hc, hb, hcell⟩ := hL.at_ (by omega)
    have hck := hcell k hk
    clear hcell
    have hd : decide (k < xs.length) = true := by simpa using hk
    go_enter Try.func65, Try.ntmps65
    go_wp2
    go_ret
    exact ⟨rfl, rfl⟩
  · obtain ⟨A, cap, rfl, _, _, _, _⟩ := hL
    have hd : decide (k < xs.length) = false := by simpa using hk
    have he : lat xs k = 0 := lat_ge hk
    have HE := Lib.hid he
    clear he
    go_enter Try.func65, Try.ntmps65
    go_wp2
    go_ret
    exact ⟨by rw [HE.out]; rfl, rfl⟩

set_option maxHeartbeats 400000 in
theorem height_any (n₀ : Nat) (v : Value) (xs : List Nat) (w : World) (hL : Lim n₀ w v xs) (hlen : xs.length ≤ 2199023255552) :
    Calls Try.prog 58 #[v] w fun e w' => e = .returned (.int .i64 ((hgt xs : Nat) : Int)) ∧ w = w' := by
  obtain ⟨A, cap, rfl, hc, hn, ho, hr⟩ := hL
  go_enter Try.func58, Try.ntmps58
  go_wp2
  go_loop [3] (fun t => ∃ k : Nat, k ≤ xs.length ∧ t = .int .i64 k ∧ hgt (xs.take k) = hgt xs) (fun t => (intOf t).toNat)
  case atStart => exact ⟨xs.length, Nat.le_refl _, rfl, by rw [List.take_length]⟩
  case round =>
    obtain ⟨k, hk, rfl, hh⟩ := hrel
    have HH := Lib.hid hh
    clear hh
    rcases Nat.eq_zero_or_pos k with rfl | hp
    · have hz := hgt_end_zero xs HH.out
      have HZ := Lib.hid hz
      clear hz
      go_wp2
      go_ret
      exact ⟨ret_int (by rw [HZ.out]; rfl), rfl⟩
    · obtain ⟨j, rfl⟩ : ∃ j, k = j + 1 := ⟨k - 1, by omega⟩
      obtain ⟨b, off, rfl, hb, hcell⟩ := hr (by omega)
      have hck := hcell j (by omega)
      clear hcell hr
      by_cases hz : lat xs j = 0
      · have h1 := hgt_step xs j (by omega) hz
        have H1 := Lib.hid (h1.symm.trans HH.out)
        clear h1 HH
        have hcz : w.cell? ⟨b, off + j, none⟩ = some (.int .u64 0) := by rw [hck, hz]; rfl
        clear hck hz
        go_wp2
        go_round
        case rel => exact ⟨j, by omega, rfl, H1.out⟩
        case measure => simp [intOf]
      · have h1 := hgt_end xs j (by omega) HH.out hz
        have H1 := Lib.hid h1
        have hne : (((lat xs j : Nat) : Int) == 0) = false := by simpa using hz
        clear h1 HH hz
        go_wp2
        go_ret
        exact ⟨ret_int (by rw [H1.out]; rfl), rfl⟩

set_option maxHeartbeats 400000 in
/-- The document's limb: at i from 0 on. -/
theorem limb_any (n₀ : Nat) (v : Value) (xs : List Nat) (k : Nat) (w : World) (hL : Lim n₀ w v xs) :
    Calls Try.prog 35 #[v, .int .i64 (k : Int)] w fun e w' => e = .returned (.int .u64 ((lat xs k : Nat) : Int)) ∧ w = w' := by
  have h0 : decide ((k : Int) < 0) = false := by simp
  by_cases hk : k < xs.length
  · obtain ⟨b, off, cap, rfl, hc, hb, hcell⟩ := hL.at_ (by omega)
    have hck := hcell k hk
    clear hcell
    have hd : decide (xs.length ≤ k) = false := by simpa using hk
    go_enter Try.func35, Try.ntmps35
    go_wp2
    go_ret
    exact ⟨rfl, rfl⟩
  · obtain ⟨A, cap, rfl, _, _, _, _⟩ := hL
    have hd : decide (xs.length ≤ k) = true := by simpa using hk
    have HE := Lib.hid (lat_ge hk)
    go_enter Try.func35, Try.ntmps35
    go_wp2
    go_ret
    exact ⟨by rw [HE.out]; rfl, rfl⟩



set_option maxHeartbeats 400000 in
theorem isNaN_any (x : Nat) (w : World) : Calls Try.prog 66 #[.int .u64 (x : Int)] w fun e w' => e = .returned (.bool false) ∧ w = w' := by
  have h : ((x : Int) != (x : Int)) = false := by simp
  go_enter Try.func66, Try.ntmps66
  go_wp2
  go_ret
  exact ⟨rfl, rfl⟩

set_option maxHeartbeats 400000 in
theorem cmp_any (x y : Nat) (w : World) : Calls Try.prog 49 #[.int .u64 (x : Int), .int .u64 (y : Int)] w fun e w' => e = .returned (.int .i64 (cmpN x y)) ∧ w = w' := by
  by_cases h1 : x < y
  · have H := Lib.hid (cmpN_lt h1)
    have d1 : decide (x < y) = true := by simpa using h1
    go_enter Try.func49, Try.ntmps49
    go_wp2_with (go_at_call 66; refine (isNaN_any _ _).mono ?_; rintro e w' ⟨rfl, rfl⟩)
    go_ret
    exact ⟨ret_int (by rw [H.out]), rfl⟩
  · have d1 : decide (x < y) = false := by simpa using h1
    by_cases h2 : y < x
    · have H := Lib.hid (cmpN_gt h2)
      have d2 : decide (y < x) = true := by simpa using h2
      go_enter Try.func49, Try.ntmps49
      go_wp2_with (go_at_call 66; refine (isNaN_any _ _).mono ?_; rintro e w' ⟨rfl, rfl⟩)
      go_ret
      exact ⟨ret_int (by rw [H.out]), rfl⟩
    · obtain rfl : x = y := by omega
      have H := Lib.hid (cmpN_eq x)
      have d2 : decide (x < x) = false := by simp
      go_enter Try.func49, Try.ntmps49
      go_wp2_with (go_at_call 66; refine (isNaN_any _ _).mono ?_; rintro e w' ⟨rfl, rfl⟩)
      go_ret
      exact ⟨ret_int (by rw [H.out]), rfl⟩

end Go.Proofs.Ytmbdidompjgaaaa
