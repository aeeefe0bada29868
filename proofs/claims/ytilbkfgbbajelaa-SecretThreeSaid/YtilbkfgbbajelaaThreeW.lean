/- lodgelaw06.SecretThree answers true, whatever comes in, and leaves memory below as it was. No condition. -/
import Derived.Test.YtilbkfgbbajelaaRaised
namespace Go.Proofs.Ytilbkfgbbajelaa
open Go.RowKit Go.Shelf Num
set_option linter.unusedVariables false

theorem pow2_ne {p : Nat} (h : Nat.Coprime 2 p) (h1 : 1 < p) (e : Nat) : pm 2 e p ≠ 0 := by
  intro h0
  rw [pm_is] at h0
  have hd : p ∣ 2 ^ e := Nat.dvd_of_mod_eq_zero h0
  have hc : Nat.Coprime (2 ^ e) p := Nat.Coprime.pow_left e h
  have := Nat.Coprime.eq_one_of_dvd hc.symm hd
  omega
set_option maxRecDepth 100000 in
set_option maxHeartbeats 2000000 in
theorem secretThree_great (g : Int) (s t : ByteArray) (w : World) (h : g = 5) : Calls Try.prog 6 #[.int .i64 g, .string s, .string t] w fun e w' => e = .returned (.bool true) ∧ Below w.heap.size w w' := by
  subst h
  go_enter Try.func6, Try.ntmps6
  have B := Below.refl w.heap.size w
  go_wp2_with fail
  refine (awake6_any _).mono ?_
  rintro e W1 ⟨rfl, hb⟩
  replace B := B.trans (hb.mono B.size)
  clear hb
  go_wp2
  go_ret
  exact ⟨rfl, B⟩

set_option maxRecDepth 100000 in
set_option maxHeartbeats 2000000 in
theorem secretThree_a (g : Int) (s t : ByteArray) (w : World) (h : g ≠ 5) (hS : isS g s.data.toList = false) : Calls Try.prog 6 #[.int .i64 g, .string s, .string t] w fun e w' => e = .returned (.bool true) ∧ Below w.heap.size w w' := by
  have d0 : (g == 5) = false := by simpa using h
  go_enter Try.func6, Try.ntmps6
  have B := Below.refl w.heap.size w
  go_wp2_with fail
  refine (sright_is g s false _ hS).mono ?_
  rintro e W1 ⟨rfl, hb⟩
  replace B := B.trans (hb.mono B.size)
  clear hb
  go_wp2_with fail
  refine (awake6_any _).mono ?_
  rintro e W2 ⟨rfl, hb⟩
  replace B := B.trans (hb.mono B.size)
  clear hb
  go_wp2
  go_ret
  exact ⟨rfl, B⟩

set_option maxRecDepth 100000 in
set_option maxHeartbeats 2000000 in
theorem secretThree_b (g : Int) (s t : ByteArray) (w : World) (h : g ≠ 5) (hS : isS g s.data.toList = true) (hT : isS g t.data.toList = false) : Calls Try.prog 6 #[.int .i64 g, .string s, .string t] w fun e w' => e = .returned (.bool true) ∧ Below w.heap.size w w' := by
  have d0 : (g == 5) = false := by simpa using h
  go_enter Try.func6, Try.ntmps6
  have B := Below.refl w.heap.size w
  go_wp2_with fail
  refine (sright_is g s true _ hS).mono ?_
  rintro e W1 ⟨rfl, hb⟩
  replace B := B.trans (hb.mono B.size)
  clear hb
  go_wp2_with fail
  refine (sright_is g t false _ hT).mono ?_
  rintro e W2 ⟨rfl, hb⟩
  replace B := B.trans (hb.mono B.size)
  clear hb
  go_wp2_with fail
  refine (awake6_any _).mono ?_
  rintro e W3 ⟨rfl, hb⟩
  replace B := B.trans (hb.mono B.size)
  clear hb
  go_wp2
  go_ret
  exact ⟨rfl, B⟩

set_option maxRecDepth 100000 in
set_option maxHeartbeats 2000000 in
theorem secretThree_c (g : Int) (s t : ByteArray) (w : World) (h : g ≠ 5) (hS : isS g s.data.toList = true) (hT : isS g t.data.toList = true) (h1 : ¬ s.size ≤ 4) : Calls Try.prog 6 #[.int .i64 g, .string s, .string t] w fun e w' => e = .returned (.bool true) ∧ Below w.heap.size w w' := by
  have d1 : decide (4 < (s.size : Int)) = true := decide_eq_true (by omega)
  have d0 : (g == 5) = false := by simpa using h
  go_enter Try.func6, Try.ntmps6
  have B := Below.refl w.heap.size w
  go_wp2_with fail
  refine (sright_is g s true _ hS).mono ?_
  rintro e W1 ⟨rfl, hb⟩
  replace B := B.trans (hb.mono B.size)
  clear hb
  go_wp2_with fail
  refine (sright_is g t true _ hT).mono ?_
  rintro e W2 ⟨rfl, hb⟩
  replace B := B.trans (hb.mono B.size)
  clear hb
  go_wp2_with fail
  refine (awake6_any _).mono ?_
  rintro e W3 ⟨rfl, hb⟩
  replace B := B.trans (hb.mono B.size)
  clear hb
  go_wp2
  go_ret
  exact ⟨rfl, B⟩

set_option maxRecDepth 100000 in
set_option maxHeartbeats 2000000 in
theorem secretThree_d (g : Int) (s t : ByteArray) (w : World) (h : g ≠ 5) (hS : isS g s.data.toList = true) (hT : isS g t.data.toList = true) (h1 : s.size ≤ 4) (h2 : ¬ t.size ≤ 4) : Calls Try.prog 6 #[.int .i64 g, .string s, .string t] w fun e w' => e = .returned (.bool true) ∧ Below w.heap.size w w' := by
  have d1 : decide (4 < (s.size : Int)) = false := decide_eq_false (by omega)
  have d2 : decide (4 < (t.size : Int)) = true := decide_eq_true (by omega)
  have d0 : (g == 5) = false := by simpa using h
  go_enter Try.func6, Try.ntmps6
  have B := Below.refl w.heap.size w
  go_wp2_with fail
  refine (sright_is g s true _ hS).mono ?_
  rintro e W1 ⟨rfl, hb⟩
  replace B := B.trans (hb.mono B.size)
  clear hb
  go_wp2_with fail
  refine (sright_is g t true _ hT).mono ?_
  rintro e W2 ⟨rfl, hb⟩
  replace B := B.trans (hb.mono B.size)
  clear hb
  go_wp2_with fail
  refine (awake6_any _).mono ?_
  rintro e W3 ⟨rfl, hb⟩
  replace B := B.trans (hb.mono B.size)
  clear hb
  go_wp2
  go_ret
  exact ⟨rfl, B⟩

set_option maxRecDepth 100000 in
set_option maxHeartbeats 2000000 in
theorem secretThree_m0 (s t : ByteArray) (w : World) (hS : isS 0 s.data.toList = true) (hT : isS 0 t.data.toList = true) (h1 : s.size ≤ 4) (h2 : t.size ≤ 4) : Calls Try.prog 6 #[.int .i64 0, .string s, .string t] w fun e w' => e = .returned (.bool true) ∧ Below w.heap.size w w' := by
  have d1 : decide (4 < (s.size : Int)) = false := decide_eq_false (by omega)
  have d2 : decide (4 < (t.size : Int)) = false := decide_eq_false (by omega)
  have hP : P 0 ≠ 0 := by rw [P_0]; decide
  have hl1 := (isS_iff.1 hS).2.2.2
  have hl2 := (isS_iff.1 hT).2.2.2
  rw [P_0] at hl1 hl2
  obtain ⟨X, hX⟩ : ∃ X, powN 0 2 (bval s.data.toList) = X := ⟨_, rfl⟩
  obtain ⟨Y, hY⟩ : ∃ Y, powN 0 2 (bval t.data.toList) = Y := ⟨_, rfl⟩
  have x0 : X ≠ 0 := by rw [← hX, powN_yes _ _ hP, P_0]; exact pow2_ne (by decide) (by decide) _
  have y0 : Y ≠ 0 := by rw [← hY, powN_yes _ _ hP, P_0]; exact pow2_ne (by decide) (by decide) _
  have xl : X < 23 := by rw [← hX, powN_yes _ _ hP, P_0]; exact pm_lt _ _ (by decide)
  have yl : Y < 23 := by rw [← hY, powN_yes _ _ hP, P_0]; exact pm_lt _ _ (by decide)
  have HX := Lib.hid (show txt (powN 0 2 (bval s.data.toList)) = txt X by rw [hX])
  have HY := Lib.hid (show txt (powN 0 2 (bval t.data.toList)) = txt Y by rw [hY])
  have hXY : pm X (bval t.data.toList) 23 = pm Y (bval s.data.toList) 23 := by
    have h := pow_two 0 2 (bval s.data.toList) (bval t.data.toList)
    rw [hX, hY, powN_yes _ _ hP, powN_yes _ _ hP, P_0] at h
    exact h
  have HXY := Lib.hid (show txt (pm Y (bval s.data.toList) 23) = txt (pm X (bval t.data.toList) 23) by rw [hXY])
  have HA := Lib.hid (show txt (redN 0 (powN 0 (bval (txt X).data.toList) (bval t.data.toList))) = txt (redN 0 (pm X (bval t.data.toList) 23)) by rw [txt_val, powN_yes _ _ hP, P_0])
  have HR := Lib.hid (show txt (redN 0 (bval (txt (pm X (bval t.data.toList) 23)).data.toList)) = txt (redN 0 (pm X (bval t.data.toList) 23)) by rw [txt_val])
  have HP := Lib.hid (show limbs (P 0) = [23] by rw [P_0]; exact limbs_1 (by omega) (by omega))
  have tx : (txt X).size ≤ 4000 := by rw [txt_size, ← hX]; exact Nat.le_trans (nbyt_24 (powN_lt _ _ _)) (by omega)
  have ty : (txt Y).size ≤ 4000 := by rw [txt_size, ← hY]; exact Nat.le_trans (nbyt_24 (powN_lt _ _ _)) (by omega)
  have tz : (txt (pm X (bval t.data.toList) 23)).size ≤ 4000 := by
    have h := nbyt_24 (powN_lt 0 X (bval t.data.toList))
    rw [powN_yes _ _ hP, P_0] at h
    rw [txt_size]
    omega
  have hq : ((txt (pm X (bval t.data.toList) 23)).toList == (txt (pm X (bval t.data.toList) 23)).toList) = true := by simp
  have hq2 : ((txt (redN 0 (pm X (bval t.data.toList) 23))).toList == (txt (redN 0 (pm X (bval t.data.toList) 23))).toList) = true := by simp
  clear hX hY hXY hP
  go_enter Try.func6, Try.ntmps6
  have B := Below.refl w.heap.size w
  go_wp2_with fail
  refine (sright_is 0 s true _ hS).mono ?_
  rintro e W1 ⟨rfl, hb⟩
  replace B := B.trans (hb.mono B.size)
  clear hb
  go_wp2_with fail
  refine (sright_is 0 t true _ hT).mono ?_
  rintro e W2 ⟨rfl, hb⟩
  replace B := B.trans (hb.mono B.size)
  clear hb
  go_wp2_with fail
  refine (refPrime_any 0 _).mono ?_
  rintro e W3 ⟨va, rfl, La, hb⟩
  rw [HP.out] at La
  replace B := B.trans (hb.mono B.size)
  clear hb
  obtain ⟨b1, o1, c1, rfl, _, _, _⟩ := La.at_ (by simp)
  clear La
  go_wp2_with fail
  refine (sblind_is 0 s _ _ (by omega) HX.out).mono ?_
  rintro e W4 ⟨rfl, hb⟩
  replace B := B.trans (hb.mono B.size)
  clear hb
  go_wp2_with fail
  refine (raised0_any X (bval t.data.toList) (txt X) t _ (txt_val X) x0 xl rfl (by omega) (by omega) tx (by omega)).mono ?_
  rintro e W5 ⟨rfl, hb⟩
  replace B := B.trans (hb.mono B.size)
  clear hb
  go_wp2_with fail
  refine (sblind_is 0 t _ _ (by omega) HY.out).mono ?_
  rintro e W6 ⟨rfl, hb⟩
  replace B := B.trans (hb.mono B.size)
  clear hb
  go_wp2_with fail
  refine (raised0_any Y (bval s.data.toList) (txt Y) s _ (txt_val Y) y0 yl rfl (by omega) (by omega) ty (by omega)).mono ?_
  rintro e W7 ⟨rfl, hb⟩
  replace B := B.trans (hb.mono B.size)
  clear hb
  rw [HXY.out]
  go_wp2_with fail
  refine (awake6_any _).mono ?_
  rintro e W8 ⟨rfl, hb⟩
  replace B := B.trans (hb.mono B.size)
  clear hb
  go_wp2_with fail
  refine (sblind_is 0 s _ _ (by omega) HX.out).mono ?_
  rintro e W9 ⟨rfl, hb⟩
  replace B := B.trans (hb.mono B.size)
  clear hb
  go_wp2_with fail
  refine (sagree_is 0 (txt X) t _ _ tx (by omega) HA.out).mono ?_
  rintro e W10 ⟨rfl, hb⟩
  replace B := B.trans (hb.mono B.size)
  clear hb
  go_wp2_with fail
  refine (sreduce_is 0 _ _ _ tz HR.out).mono ?_
  rintro e W11 ⟨rfl, hb⟩
  replace B := B.trans (hb.mono B.size)
  clear hb
  go_wp2
  go_ret
  exact ⟨rfl, B⟩

set_option maxRecDepth 100000 in
set_option maxHeartbeats 2000000 in
theorem secretThree_m1 (s t : ByteArray) (w : World) (hS : isS 1 s.data.toList = true) (hT : isS 1 t.data.toList = true) (h1 : s.size ≤ 4) (h2 : t.size ≤ 4) : Calls Try.prog 6 #[.int .i64 1, .string s, .string t] w fun e w' => e = .returned (.bool true) ∧ Below w.heap.size w w' := by
  have d1 : decide (4 < (s.size : Int)) = false := decide_eq_false (by omega)
  have d2 : decide (4 < (t.size : Int)) = false := decide_eq_false (by omega)
  have hP : P 1 ≠ 0 := by rw [P_1]; decide
  have hl1 := (isS_iff.1 hS).2.2.2
  have hl2 := (isS_iff.1 hT).2.2.2
  rw [P_1] at hl1 hl2
  obtain ⟨X, hX⟩ : ∃ X, powN 1 2 (bval s.data.toList) = X := ⟨_, rfl⟩
  obtain ⟨Y, hY⟩ : ∃ Y, powN 1 2 (bval t.data.toList) = Y := ⟨_, rfl⟩
  have x0 : X ≠ 0 := by rw [← hX, powN_yes _ _ hP, P_1]; exact pow2_ne (by decide) (by decide) _
  have y0 : Y ≠ 0 := by rw [← hY, powN_yes _ _ hP, P_1]; exact pow2_ne (by decide) (by decide) _
  have xl : X < 2039 := by rw [← hX, powN_yes _ _ hP, P_1]; exact pm_lt _ _ (by decide)
  have yl : Y < 2039 := by rw [← hY, powN_yes _ _ hP, P_1]; exact pm_lt _ _ (by decide)
  have HX := Lib.hid (show txt (powN 1 2 (bval s.data.toList)) = txt X by rw [hX])
  have HY := Lib.hid (show txt (powN 1 2 (bval t.data.toList)) = txt Y by rw [hY])
  have hXY : pm X (bval t.data.toList) 2039 = pm Y (bval s.data.toList) 2039 := by
    have h := pow_two 1 2 (bval s.data.toList) (bval t.data.toList)
    rw [hX, hY, powN_yes _ _ hP, powN_yes _ _ hP, P_1] at h
    exact h
  have HXY := Lib.hid (show txt (pm Y (bval s.data.toList) 2039) = txt (pm X (bval t.data.toList) 2039) by rw [hXY])
  have HA := Lib.hid (show txt (redN 1 (powN 1 (bval (txt X).data.toList) (bval t.data.toList))) = txt (redN 1 (pm X (bval t.data.toList) 2039)) by rw [txt_val, powN_yes _ _ hP, P_1])
  have HR := Lib.hid (show txt (redN 1 (bval (txt (pm X (bval t.data.toList) 2039)).data.toList)) = txt (redN 1 (pm X (bval t.data.toList) 2039)) by rw [txt_val])
  have HP := Lib.hid (show limbs (P 1) = [2039] by rw [P_1]; exact limbs_1 (by omega) (by omega))
  have tx : (txt X).size ≤ 4000 := by rw [txt_size, ← hX]; exact Nat.le_trans (nbyt_24 (powN_lt _ _ _)) (by omega)
  have ty : (txt Y).size ≤ 4000 := by rw [txt_size, ← hY]; exact Nat.le_trans (nbyt_24 (powN_lt _ _ _)) (by omega)
  have tz : (txt (pm X (bval t.data.toList) 2039)).size ≤ 4000 := by
    have h := nbyt_24 (powN_lt 1 X (bval t.data.toList))
    rw [powN_yes _ _ hP, P_1] at h
    rw [txt_size]
    omega
  have hq : ((txt (pm X (bval t.data.toList) 2039)).toList == (txt (pm X (bval t.data.toList) 2039)).toList) = true := by simp
  have hq2 : ((txt (redN 1 (pm X (bval t.data.toList) 2039))).toList == (txt (redN 1 (pm X (bval t.data.toList) 2039))).toList) = true := by simp
  clear hX hY hXY hP
  go_enter Try.func6, Try.ntmps6
  have B := Below.refl w.heap.size w
  go_wp2_with fail
  refine (sright_is 1 s true _ hS).mono ?_
  rintro e W1 ⟨rfl, hb⟩
  replace B := B.trans (hb.mono B.size)
  clear hb
  go_wp2_with fail
  refine (sright_is 1 t true _ hT).mono ?_
  rintro e W2 ⟨rfl, hb⟩
  replace B := B.trans (hb.mono B.size)
  clear hb
  go_wp2_with fail
  refine (refPrime_any 1 _).mono ?_
  rintro e W3 ⟨va, rfl, La, hb⟩
  rw [HP.out] at La
  replace B := B.trans (hb.mono B.size)
  clear hb
  obtain ⟨b1, o1, c1, rfl, _, _, _⟩ := La.at_ (by simp)
  clear La
  go_wp2_with fail
  refine (sblind_is 1 s _ _ (by omega) HX.out).mono ?_
  rintro e W4 ⟨rfl, hb⟩
  replace B := B.trans (hb.mono B.size)
  clear hb
  go_wp2_with fail
  refine (raised1_any X (bval t.data.toList) (txt X) t _ (txt_val X) x0 xl rfl (by omega) (by omega) tx (by omega)).mono ?_
  rintro e W5 ⟨rfl, hb⟩
  replace B := B.trans (hb.mono B.size)
  clear hb
  go_wp2_with fail
  refine (sblind_is 1 t _ _ (by omega) HY.out).mono ?_
  rintro e W6 ⟨rfl, hb⟩
  replace B := B.trans (hb.mono B.size)
  clear hb
  go_wp2_with fail
  refine (raised1_any Y (bval s.data.toList) (txt Y) s _ (txt_val Y) y0 yl rfl (by omega) (by omega) ty (by omega)).mono ?_
  rintro e W7 ⟨rfl, hb⟩
  replace B := B.trans (hb.mono B.size)
  clear hb
  rw [HXY.out]
  go_wp2_with fail
  refine (awake6_any _).mono ?_
  rintro e W8 ⟨rfl, hb⟩
  replace B := B.trans (hb.mono B.size)
  clear hb
  go_wp2_with fail
  refine (sblind_is 1 s _ _ (by omega) HX.out).mono ?_
  rintro e W9 ⟨rfl, hb⟩
  replace B := B.trans (hb.mono B.size)
  clear hb
  go_wp2_with fail
  refine (sagree_is 1 (txt X) t _ _ tx (by omega) HA.out).mono ?_
  rintro e W10 ⟨rfl, hb⟩
  replace B := B.trans (hb.mono B.size)
  clear hb
  go_wp2_with fail
  refine (sreduce_is 1 _ _ _ tz HR.out).mono ?_
  rintro e W11 ⟨rfl, hb⟩
  replace B := B.trans (hb.mono B.size)
  clear hb
  go_wp2
  go_ret
  exact ⟨rfl, B⟩

theorem secretThree_walk (g : Int) (s t : ByteArray) (w : World) (hg : (Lit.int .i64 g).wf = true) (hs : s.size ≤ maxLen) (ht : t.size ≤ maxLen) : Calls Try.prog 6 #[.int .i64 g, .string s, .string t] w fun e w' => e = .returned (.bool true) ∧ Below w.heap.size w w' := by
  by_cases h : g = 5
  · exact secretThree_great g s t w h
  cases hS : isS g s.data.toList with
  | false => exact secretThree_a g s t w h hS
  | true =>
    cases hT : isS g t.data.toList with
    | false => exact secretThree_b g s t w h hS hT
    | true =>
      by_cases h1 : s.size ≤ 4
      rotate_left
      · exact secretThree_c g s t w h hS hT h1
      by_cases h2 : t.size ≤ 4
      rotate_left
      · exact secretThree_d g s t w h hS hT h1 h2
      rcases P_cases g with rfl | rfl | rfl | ⟨a, b, c⟩
      · exact secretThree_m0 s t w hS hT h1 h2
      · exact secretThree_m1 s t w hS hT h1 h2
      · exact absurd rfl h
      · exact absurd (P_no a b c) (isS_iff.1 hS).1

end Go.Proofs.Ytilbkfgbbajelaa
