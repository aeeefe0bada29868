/- lodgelaw06.SecretReduces answers true, whatever comes in, and leaves memory below as it was. No condition. -/
import Derived.Test.YtilbkfgbbajelaaAwake6
namespace Go.Proofs.Ytilbkfgbbajelaa
open Go.RowKit Go.Shelf Num
set_option linter.unusedVariables false

set_option maxRecDepth 100000 in
set_option maxHeartbeats 2000000 in
theorem secretReduces_long (g : Int) (s : ByteArray) (w : World) (h1 : ¬ s.size ≤ 10) : Calls Try.prog 5 #[.int .i64 g, .string s] w fun e w' => e = .returned (.bool true) ∧ Below w.heap.size w w' := by
  have d1 : decide (10 < (s.size : Int)) = true := decide_eq_true (by omega)
  go_enter Try.func5, Try.ntmps5
  have B := Below.refl w.heap.size w
  go_wp2_with fail
  refine (awake6_any _).mono ?_
  rintro e W1 ⟨rfl, hb⟩
  replace B := B.trans (hb.mono B.size)
  clear hb
  go_wp2
  go_ret
  exact ⟨rfl, B⟩

set_option maxRecDepth 100000 in
set_option maxHeartbeats 2000000 in
theorem secretReduces_none (g : Int) (s : ByteArray) (w : World) (h1 : s.size ≤ 10) (hG : isG g = false) : Calls Try.prog 5 #[.int .i64 g, .string s] w fun e w' => e = .returned (.bool true) ∧ Below w.heap.size w w' := by
  have d1 : decide (10 < (s.size : Int)) = false := decide_eq_false (by omega)
  go_enter Try.func5, Try.ntmps5
  have B := Below.refl w.heap.size w
  go_wp2_with fail
  refine (refRright g false _ hG).mono ?_
  rintro e W1 ⟨rfl, hb⟩
  replace B := B.trans (hb.mono B.size)
  clear hb
  go_wp2_with fail
  refine (awake6_any _).mono ?_
  rintro e W2 ⟨rfl, hb⟩
  replace B := B.trans (hb.mono B.size)
  clear hb
  go_wp2
  go_ret
  exact ⟨rfl, B⟩

set_option maxRecDepth 100000 in
set_option maxHeartbeats 2000000 in
theorem secretReduces_high (g : Int) (s : ByteArray) (w : World) (h1 : s.size ≤ 10) (hG : isG g = true) (h2 : P g / 2 - 2 ≤ bval s.data.toList) : Calls Try.prog 5 #[.int .i64 g, .string s] w fun e w' => e = .returned (.bool true) ∧ Below w.heap.size w w' := by
  have d1 : decide (10 < (s.size : Int)) = false := decide_eq_false (by omega)
  have hq := q_big (isG_P hG)
  have hlh := half_len g
  have h2l := two_len
  have hl5 := bytes_len s (by omega)
  have hll := P_lt g
  have e1 : (limbs (P g / 2 - 2)).length ≤ 24 := limbs_len (by omega)
  clear hll
  have HR := Lib.hid (show isS g (txt (redN g (bval s.data.toList))).data.toList = true by rw [txt_data]; exact isS_red _ (isG_P hG))
  have d2 := cmp_ge h2
  go_enter Try.func5, Try.ntmps5
  have B := Below.refl w.heap.size w
  go_wp2_with fail
  refine (refRright g true _ hG).mono ?_
  rintro e W1 ⟨rfl, hb⟩
  replace B := B.trans (hb.mono B.size)
  clear hb
  go_wp2_with fail
  refine (sreduce_any g s _ (by omega)).mono ?_
  rintro e W2 ⟨rfl, hb⟩
  replace B := B.trans (hb.mono B.size)
  clear hb
  go_wp2_with fail
  refine (refOrder_any g _).mono ?_
  rintro e W3 ⟨v1, rfl, L1, hb⟩
  replace B := B.trans (hb.mono B.size)
  clear hb
  obtain ⟨A1, c1, rfl, _⟩ := id L1
  go_wp2_with fail
  refine (refSubN _ _ (P g / 2) 2 _ (L1.alloc _) (lit_two _) (by omega) (by omega) (by omega)).mono ?_
  rintro e W4 ⟨v2, rfl, L2, hb⟩
  replace L1 := ((L1).alloc _).next hb
  replace B := (al1 B _).trans (hb.mono (al1 B _).size)
  clear hb
  obtain ⟨A2, c2, rfl, _⟩ := id L2
  go_wp2_with fail
  refine (refFrom_any s _ (by omega)).mono ?_
  rintro e W5 ⟨v3, rfl, L3, hb⟩
  replace L2 := L2.next hb
  replace B := B.trans (hb.mono B.size)
  clear hb
  obtain ⟨A3, c3, rfl, _⟩ := id L3
  go_wp2_with fail
  refine (awake6_any _).mono ?_
  rintro e W6 ⟨rfl, hb⟩
  replace L2 := L2.next hb
  replace L3 := L3.next hb
  replace B := B.trans (hb.mono B.size)
  clear hb
  go_wp2_with fail
  refine (sright_is g _ true _ HR.out).mono ?_
  rintro e W7 ⟨rfl, hb⟩
  replace L2 := L2.next hb
  replace L3 := L3.next hb
  replace B := B.trans (hb.mono B.size)
  clear hb
  go_wp2_with fail
  refine (refCmp _ _ (bval s.data.toList) (P g / 2 - 2) _ L3 L2 (by omega) (by omega)).mono ?_
  rintro e W8 ⟨rfl, hb⟩
  replace L2 := L2.next hb
  replace L3 := L3.next hb
  replace B := B.trans (hb.mono B.size)
  clear hb
  go_wp2
  go_ret
  exact ⟨rfl, B⟩

set_option maxRecDepth 100000 in
set_option maxHeartbeats 2000000 in
theorem secretReduces_low (g : Int) (s : ByteArray) (w : World) (h1 : s.size ≤ 10) (hG : isG g = true) (h2 : bval s.data.toList < P g / 2 - 2) : Calls Try.prog 5 #[.int .i64 g, .string s] w fun e w' => e = .returned (.bool true) ∧ Below w.heap.size w w' := by
  have d1 : decide (10 < (s.size : Int)) = false := decide_eq_false (by omega)
  have hq := q_big (isG_P hG)
  have hlh := half_len g
  have h2l := two_len
  have hl5 := bytes_len s (by omega)
  have hll := P_lt g
  have e1 : (limbs (P g / 2 - 2)).length ≤ 24 := limbs_len (by omega)
  clear hll
  have HR := Lib.hid (show isS g (txt (redN g (bval s.data.toList))).data.toList = true by rw [txt_data]; exact isS_red _ (isG_P hG))
  have d2 := cmp_nge h2
  have hr : redN g (bval s.data.toList) = bval s.data.toList + 2 := by rw [redN_yes _ (isG_P hG), Nat.mod_eq_of_lt h2, Nat.add_comm]
  have HX := Lib.hid (show txt (redN g (bval s.data.toList)) = txt (bval s.data.toList + 2) by rw [hr])
  have e3 : (limbs (bval s.data.toList + 2)).length ≤ 24 := by rw [← hr]; exact redN_len _ _
  clear hr
  have hq2 : ((txt (bval s.data.toList + 2)).toList == (txt (bval s.data.toList + 2)).toList) = true := by simp
  go_enter Try.func5, Try.ntmps5
  have B := Below.refl w.heap.size w
  go_wp2_with fail
  refine (refRright g true _ hG).mono ?_
  rintro e W1 ⟨rfl, hb⟩
  replace B := B.trans (hb.mono B.size)
  clear hb
  go_wp2_with fail
  refine (sreduce_any g s _ (by omega)).mono ?_
  rintro e W2 ⟨rfl, hb⟩
  replace B := B.trans (hb.mono B.size)
  clear hb
  go_wp2_with fail
  refine (refOrder_any g _).mono ?_
  rintro e W3 ⟨v1, rfl, L1, hb⟩
  replace B := B.trans (hb.mono B.size)
  clear hb
  obtain ⟨A1, c1, rfl, _⟩ := id L1
  go_wp2_with fail
  refine (refSubN _ _ (P g / 2) 2 _ (L1.alloc _) (lit_two _) (by omega) (by omega) (by omega)).mono ?_
  rintro e W4 ⟨v2, rfl, L2, hb⟩
  replace L1 := ((L1).alloc _).next hb
  replace B := (al1 B _).trans (hb.mono (al1 B _).size)
  clear hb
  obtain ⟨A2, c2, rfl, _⟩ := id L2
  go_wp2_with fail
  refine (refFrom_any s _ (by omega)).mono ?_
  rintro e W5 ⟨v3, rfl, L3, hb⟩
  replace L2 := L2.next hb
  replace B := B.trans (hb.mono B.size)
  clear hb
  obtain ⟨A3, c3, rfl, _⟩ := id L3
  go_wp2_with fail
  refine (awake6_any _).mono ?_
  rintro e W6 ⟨rfl, hb⟩
  replace L2 := L2.next hb
  replace L3 := L3.next hb
  replace B := B.trans (hb.mono B.size)
  clear hb
  go_wp2_with fail
  refine (sright_is g _ true _ HR.out).mono ?_
  rintro e W7 ⟨rfl, hb⟩
  replace L2 := L2.next hb
  replace L3 := L3.next hb
  replace B := B.trans (hb.mono B.size)
  clear hb
  go_wp2_with fail
  refine (refCmp _ _ (bval s.data.toList) (P g / 2 - 2) _ L3 L2 (by omega) (by omega)).mono ?_
  rintro e W8 ⟨rfl, hb⟩
  replace L2 := L2.next hb
  replace L3 := L3.next hb
  replace B := B.trans (hb.mono B.size)
  clear hb
  go_wp2_with fail
  refine (refAddN _ _ (bval s.data.toList) 2 _ (L3.alloc _) (lit_two _) (by omega) (by omega)).mono ?_
  rintro e W9 ⟨v7, rfl, L7, hb⟩
  replace L2 := ((L2).alloc _).next hb
  replace L3 := ((L3).alloc _).next hb
  replace B := (al1 B _).trans (hb.mono (al1 B _).size)
  clear hb
  obtain ⟨A7, c7, rfl, _⟩ := id L7
  rw [HX.out]
  go_wp2_with fail
  refine (refToN _ (bval s.data.toList + 2) _ L7 (by omega)).mono ?_
  rintro e W10 ⟨rfl, hb⟩
  replace L2 := L2.next hb
  replace L3 := L3.next hb
  replace L7 := L7.next hb
  replace B := B.trans (hb.mono B.size)
  clear hb
  go_wp2
  go_ret
  exact ⟨rfl, B⟩

theorem secretReduces_walk (g : Int) (s : ByteArray) (w : World) (hg : (Lit.int .i64 g).wf = true) (hs : s.size ≤ maxLen) : Calls Try.prog 5 #[.int .i64 g, .string s] w fun e w' => e = .returned (.bool true) ∧ Below w.heap.size w w' := by
  by_cases h1 : s.size ≤ 10
  · cases hG : isG g with
    | false => exact secretReduces_none g s w h1 hG
    | true =>
      rcases Nat.lt_or_ge (bval s.data.toList) (P g / 2 - 2) with h2 | h2
      · exact secretReduces_low g s w h1 hG h2
      · exact secretReduces_high g s w h1 hG h2
  · exact secretReduces_long g s w h1

end Go.Proofs.Ytilbkfgbbajelaa
