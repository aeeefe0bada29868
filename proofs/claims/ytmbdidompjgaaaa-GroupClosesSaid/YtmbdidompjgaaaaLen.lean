/- nat.Bits answers how many bits a number has, whatever its length. Conditions: the slice reads as limbs; lengths below 2^40. -/
import Derived.Test.YtmbdidompjgaaaaNat
import Derived.Test.YtmbdidompjgaaaaLenW
namespace Go.Proofs.Ytmbdidompjgaaaa
open Go.RowKit Go.Shelf Num
set_option linter.unusedVariables false

theorem nbits_lim {x : Nat} (hx : x < M) : nbits x ≤ 64 := by
  rw [nbits_le, ← M_two]; exact hx

set_option maxHeartbeats 1000000 in
theorem bits_any (n₀ : Nat) (v : Value) (xs : List Nat) (w : World) (hL : Lim n₀ w v xs) (hlx : xs.length ≤ 1099511627776) :
    Calls Try.prog 71 #[v] w fun e w' => e = .returned (.int .i64 ((nbits (val xs) : Nat) : Int)) ∧ w = w' := by
  have ho := hL.ok
  rcases Nat.eq_zero_or_pos (hgt xs) with h0 | hp
  · have hv : val xs = 0 := by
      have h1 := trim_take xs
      rw [h0] at h1
      rw [← val_trim, ← h1]
      rfl
    have HV := Lib.hid hv
    clear hv
    have hd : (((hgt xs : Nat) : Int) == 0) = true := by rw [h0]; rfl
    have H0 := Lib.hid h0
    clear h0
    obtain ⟨A, ca, rfl, _⟩ := id hL
    go_enter Try.func71, Try.ntmps71
    go_wp2_with (go_at_call 58; refine (height_any _ _ xs _ hL (by omega)).mono ?_; rintro e w' ⟨rfl, rfl⟩)
    go_ret
    exact ⟨ret_int (by rw [HV.out]; rfl), rfl⟩
  · obtain ⟨j, hj⟩ : ∃ j, hgt xs = j + 1 := ⟨hgt xs - 1, by omega⟩
    obtain ⟨e1, e2, e3⟩ := nbits_limbs xs ho j hj
    have E1 := Lib.hid e1
    clear e1
    have hnb := nbits_lim (ok_get ho j)
    have hc := height_any n₀ v xs w hL (by omega)
    rw [hj] at hc
    have HC := Lib.hid hc
    clear hc hj hp e2
    have hd : (((j : Int) + 1) == 0) = false := by simp; omega
    obtain ⟨b, off, cap, rfl, hcap, hb, hcell⟩ := hL.at_ (by omega)
    have hck := hcell j e3
    clear hcell hL
    have hlim := ok_get ho j
    go_enter Try.func71, Try.ntmps71
    go_wp2_with (first
      | (go_at_call 58; refine HC.out.mono ?_; rintro e w' ⟨rfl, rfl⟩)
      | (go_at_call 59; refine (len64_any _ _ hlim).mono ?_; rintro e w' ⟨rfl, rfl⟩))
    go_ret
    exact ⟨ret_int (by rw [E1.out]; omega), rfl⟩

end Go.Proofs.Ytmbdidompjgaaaa
