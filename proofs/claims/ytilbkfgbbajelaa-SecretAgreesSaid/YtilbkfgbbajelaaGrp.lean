/- What the functions of package group answer: Prime, Right, Order, Element; and the document's own (lodgeref05). Conditions: an element's text of less than 2^40 bytes. -/
import Derived.Test.YtilbkfgbbajelaaRefM
import Derived.Test.YtilbkfgbbajelaaSame
import Derived.Test.YtilbkfgbbajelaaOctF
import Derived.Test.YtilbkfgbbajelaaOctR
import Derived.Test.YtilbkfgbbajelaaNumA
namespace Go.Proofs.Ytilbkfgbbajelaa
open Go.RowKit Go.Shelf Num
set_option linter.unusedVariables false

theorem al1 {w W : World} (h : Below w.heap.size w W) (o : Obj) : Below w.heap.size w (W.alloc o) := h.alloc h.size o
theorem lim_litN (w : World) (xs : List Nat) (ho : Ok xs) : Lim (w.alloc (.cells (Us xs).toArray 32)).heap.size (w.alloc (.cells (Us xs).toArray 32)) (.slice (some ⟨w.heap.size, 0, none⟩) xs.length xs.length) xs :=
  lim_of_cells (heap_last w (.cells (Us xs).toArray 32)) ho
theorem under {n : Nat} (h : n ≤ 99999) : n < M := by unfold M; omega
theorem limbs_1 {n : Nat} (h0 : n ≠ 0) (h : n ≤ 99999) : limbs n = [n] := by
  have hm : n < M := under h
  rw [limbs_pos h0, Nat.mod_eq_of_lt hm, Nat.div_eq_of_lt hm, limbs_zero]
theorem val_1n (n : Nat) : val [n] = n := by show n + M * 0 = n; omega

set_option maxRecDepth 100000 in
set_option maxHeartbeats 1000000 in
theorem greatPrime_any (w : World) : Calls Try.prog 62 #[] w (Gives (val greatL) w) := by
  go_enter Try.func62, Try.ntmps62
  go_wp2
  go_ret
  refine ⟨_, rfl, ?_, al1 (Below.refl _ w) _⟩
  rw [limbs_great]
  exact lim_litN w greatL great_Ok

set_option maxRecDepth 100000 in
set_option maxHeartbeats 1000000 in
theorem prime_any (g : Int) (w : World) : Calls Try.prog 47 #[.int .i64 g] w (Gives (P g) w) := by
  rcases P_cases g with rfl | rfl | rfl | ⟨h0, h1, h5⟩
  · go_enter Try.func47, Try.ntmps47
    go_wp2
    go_ret
    refine ⟨_, rfl, ?_, al1 (Below.refl _ w) _⟩
    rw [P_0, limbs_1 (by omega) (by omega)]
    exact lim_lit1 w 23 (under (by omega))
  · go_enter Try.func47, Try.ntmps47
    go_wp2
    go_ret
    refine ⟨_, rfl, ?_, al1 (Below.refl _ w) _⟩
    rw [P_1, limbs_1 (by omega) (by omega)]
    exact lim_lit1 w 2039 (under (by omega))
  · go_enter Try.func47, Try.ntmps47
    go_wp2_with fail
    refine (greatPrime_any w).mono ?_
    rintro e W ⟨v, rfl, L, B⟩
    go_wp2
    go_ret
    exact ⟨v, rfl, by rw [P_5]; exact L, B⟩
  · have d0 : (g == 0) = false := by simpa using h0
    have d1 : (g == 1) = false := by simpa using h1
    have d5 : (g == 5) = false := by simpa using h5
    go_enter Try.func47, Try.ntmps47
    go_wp2
    go_ret
    exact ⟨_, rfl, by rw [P_no h0 h1 h5]; exact Lim.nil _ _, Below.refl _ _⟩

theorem right_is (g : Int) : decide (0 < (limbs (P g)).length) = isG g := by
  unfold isG
  by_cases h : P g = 0
  · rw [h]; rfl
  · have := len_pos h
    rw [decide_eq_true h, decide_eq_true this]

set_option maxHeartbeats 1000000 in
theorem right_any (g : Int) (w : World) : Calls Try.prog 26 #[.int .i64 g] w fun e W => e = .returned (.bool (isG g)) ∧ Below w.heap.size w W := by
  have HR := Lib.hid (right_is g)
  go_enter Try.func26, Try.ntmps26
  go_wp2_with fail
  refine (prime_any g w).mono ?_
  rintro e W ⟨v, rfl, L, B⟩
  obtain ⟨A, ca, rfl, _⟩ := id L
  go_wp2
  go_ret
  exact ⟨congrArg (fun b => Ending.returned (.bool b)) HR.out, B⟩

set_option maxHeartbeats 1000000 in
theorem order_any (g : Int) (w : World) : Calls Try.prog 31 #[.int .i64 g] w (Gives (P g / 2) w) := by
  have hl := P_len g
  go_enter Try.func31, Try.ntmps31
  go_wp2_with fail
  refine (prime_any g w).mono ?_
  rintro e W ⟨v, rfl, L, B⟩
  obtain ⟨A, ca, rfl, _⟩ := id L
  go_wp2_with fail
  refine (divide_any _ _ (limbs (P g)) [2] _ (L.alloc _) (lim_lit1 W 2 (under (by omega))) (by omega) (by simp) (by decide +kernel)).mono ?_
  rintro e W2 ⟨vq, vr, rfl, Lq, Lr, B2⟩
  rw [val_limbs, val_1n] at Lq
  obtain ⟨A2, c2, rfl, _⟩ := id Lq
  obtain ⟨A3, c3, rfl, _⟩ := id Lr
  go_wp2
  go_ret
  exact ⟨_, rfl, Lq, (al1 B _).trans (B2.mono (al1 B _).size)⟩

end Go.Proofs.Ytilbkfgbbajelaa
