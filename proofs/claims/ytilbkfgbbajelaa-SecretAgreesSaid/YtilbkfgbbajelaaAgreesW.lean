/- lodgelaw06.SecretAgrees answers true, whatever comes in, if of the great group no power of 2 from 2 to below the order is 1 (GreatOne); memory below is left as it was. Condition: GreatOne. -/
import Derived.Test.YtilbkfgbbajelaaAwake6
namespace Go.Proofs.Ytilbkfgbbajelaa
open Go.RowKit Go.Shelf Num
set_option linter.unusedVariables false

/-- Of the great group no power of 2 from 2 to below the order is 1. -/
def GreatOne : Prop := ∀ s, 2 ≤ s → s < P 5 / 2 → pm 2 s (P 5) ≠ 1
def chk (p : Nat) : Nat → Nat → Bool
  | _, 0 => true
  | c, n + 1 => decide (c ≠ 1) && chk p (c * 2 % p) n
theorem chk_all (p : Nat) : ∀ n k, chk p (pm 2 k p) n = true → ∀ j, j < n → pm 2 (k + j) p ≠ 1
  | 0, _, _, j, hj => absurd hj (Nat.not_lt_zero j)
  | n + 1, k, h, j, hj => by
    have h' : (decide (pm 2 k p ≠ 1) && chk p (pm 2 k p * 2 % p) n) = true := h
    rw [Bool.and_eq_true, decide_eq_true_iff, ← pm_succ] at h'
    rcases j with _ | j
    · exact h'.1
    · have k1 := chk_all p n (k + 1) h'.2 j (by omega)
      rwa [show k + 1 + j = k + (j + 1) by omega] at k1
theorem one_0 {s : Nat} (h : 2 ≤ s) (h1 : s < P 0 / 2) : pm 2 s (P 0) ≠ 1 := by
  rw [P_0] at h1 ⊢
  have k := chk_all 23 9 2 (by rw [pm_is]; decide +kernel) (s - 2) (by omega)
  rwa [show 2 + (s - 2) = s by omega] at k
theorem one_1 {s : Nat} (h : 2 ≤ s) (h1 : s < P 1 / 2) : pm 2 s (P 1) ≠ 1 := by
  rw [P_1] at h1 ⊢
  have k := chk_all 2039 1017 2 (by rw [pm_is]; decide +kernel) (s - 2) (by omega)
  rwa [show 2 + (s - 2) = s by omega] at k
theorem cop_g {g : Int} (h : P g ≠ 0) : Nat.Coprime 2 (P g) := by
  rcases P_cases g with rfl | rfl | rfl | ⟨a, b, c⟩
  · rw [P_0]; decide
  · rw [P_1]; decide +kernel
  · rw [P_5]; unfold Nat.Coprime; decide +kernel
  · exact absurd (P_no a b c) h
theorem pow2_ne' {p : Nat} (h : Nat.Coprime 2 p) (h1 : 1 < p) (e : Nat) : pm 2 e p ≠ 0 := by
  intro h0
  rw [pm_is] at h0
  have hd : p ∣ 2 ^ e := Nat.dvd_of_mod_eq_zero h0
  have hc : Nat.Coprime (2 ^ e) p := Nat.Coprime.pow_left e h
  have := Nat.Coprime.eq_one_of_dvd hc.symm hd
  omega
theorem blind_ne (HG : GreatOne) {g : Int} {s : Nat} (hP : P g ≠ 0) (h : 2 ≤ s) (h1 : s < P g / 2) : 1 < powN g 2 s := by
  have hq := q_big hP
  have h0 := pow2_ne' (cop_g hP) (by omega) s
  have h2 : pm 2 s (P g) ≠ 1 := by
    rcases P_cases g with rfl | rfl | rfl | ⟨a, b, c⟩
    · exact one_0 h h1
    · exact one_1 h h1
    · exact HG s h h1
    · exact absurd (P_no a b c) hP
  rw [powN_yes _ _ hP]
  omega
theorem two_0 : pm 2 (P 0 / 2) (P 0) = 1 := by rw [P_0, pm_is]
theorem two_1 : pm 2 (P 1 / 2) (P 1) = 1 := by rw [P_1, pm_is]; decide +kernel
theorem blind_el {g : Int} {s : Nat} (hg : pm 2 (P g / 2) (P g) = 1) (hP : P g ≠ 0) (h1 : 1 < powN g 2 s) : isEl g (byts (powN g 2 s)) = true := by
  refine (isEl_byts (Nat.le_trans (nbyt_24 (powN_lt _ _ _)) (by omega))).2 ⟨h1, ?_, ?_⟩
  · rw [powN_yes _ _ hP]
    exact pm_lt _ _ (by omega)
  · rw [powN_yes _ _ hP, ← pm_mul, Nat.mul_comm, pm_mul, hg, pm_ones]
    exact Nat.mod_eq_of_lt (by have := q_big hP; omega)
theorem refElement_is (g : Int) (s : ByteArray) (b : Bool) (w : World) (hs : s.size ≤ 1099511627776) (hb : isEl g s.data.toList = b) :
    Calls Try.prog 16 #[.int .i64 g, .string s] w (fun e W => e = .returned (.bool b) ∧ Below w.heap.size w W) := by
  have h := refElement_any g s w hs
  rwa [hb] at h
theorem txt_ne {n m : Nat} (h : n ≠ m) : ((txt n).toList == byts m) = false := by
  rw [Lib.toList_data, txt_data]
  have : byts n ≠ byts m := fun e => h (byts_inj e)
  simpa using this

set_option maxRecDepth 100000 in
set_option maxHeartbeats 2000000 in
theorem secretAgrees_a (g : Int) (s t : ByteArray) (w : World) (hS : isS g s.data.toList = false) : Calls Try.prog 4 #[.int .i64 g, .string s, .string t] w fun e w' => e = .returned (.bool true) ∧ Below w.heap.size w w' := by
  go_enter Try.func4, Try.ntmps4
  have B := Below.refl w.heap.size w
  go_wp2_with fail
  refine (sright_is g s false _ hS).mono ?_
  rintro e W1 ⟨rfl, hb⟩
  replace B := B.trans (hb.mono B.size)
  clear hb
  go_wp2_with fail
  refine (awake6_any _).mono ?_
  rintro e W2 ⟨rfl, hb⟩
  replace B := B.trans (hb.mono B.size)
  clear hb
  go_wp2
  go_ret
  exact ⟨rfl, B⟩

set_option maxRecDepth 100000 in
set_option maxHeartbeats 2000000 in
theorem secretAgrees_b (g : Int) (s t : ByteArray) (w : World) (hS : isS g s.data.toList = true) (hT : isS g t.data.toList = false) : Calls Try.prog 4 #[.int .i64 g, .string s, .string t] w fun e w' => e = .returned (.bool true) ∧ Below w.heap.size w w' := by
  go_enter Try.func4, Try.ntmps4
  have B := Below.refl w.heap.size w
  go_wp2_with fail
  refine (sright_is g s true _ hS).mono ?_
  rintro e W1 ⟨rfl, hb⟩
  replace B := B.trans (hb.mono B.size)
  clear hb
  go_wp2_with fail
  refine (sright_is g t false _ hT).mono ?_
  rintro e W2 ⟨rfl, hb⟩
  replace B := B.trans (hb.mono B.size)
  clear hb
  go_wp2_with fail
  refine (awake6_any _).mono ?_
  rintro e W3 ⟨rfl, hb⟩
  replace B := B.trans (hb.mono B.size)
  clear hb
  go_wp2
  go_ret
  exact ⟨rfl, B⟩

set_option maxRecDepth 100000 in
set_option maxHeartbeats 2000000 in
theorem secretAgrees_small (g : Int) (s t : ByteArray) (w : World) (HG : GreatOne) (h : g ≠ 5) (h2 : pm 2 (P g / 2) (P g) = 1) (hS : isS g s.data.toList = true) (hT : isS g t.data.toList = true) : Calls Try.prog 4 #[.int .i64 g, .string s, .string t] w fun e w' => e = .returned (.bool true) ∧ Below w.heap.size w w' := by
  obtain ⟨hP, hs1, hw1, hs2⟩ := isS_iff.1 hS
  obtain ⟨hP2, ht1, hw2, ht2⟩ := isS_iff.1 hT
  rw [← size_data] at hs1 ht1
  obtain ⟨X, hX⟩ : ∃ X, powN g 2 (bval s.data.toList) = X := ⟨_, rfl⟩
  obtain ⟨Y, hY⟩ : ∃ Y, powN g 2 (bval t.data.toList) = Y := ⟨_, rfl⟩
  have x1 : 1 < X := by rw [← hX]; exact blind_ne HG hP hs2.1 hs2.2
  have y1 : 1 < Y := by rw [← hY]; exact blind_ne HG hP ht2.1 ht2.2
  have HX := Lib.hid (show txt (powN g 2 (bval s.data.toList)) = txt X by rw [hX])
  have HY := Lib.hid (show txt (powN g 2 (bval t.data.toList)) = txt Y by rw [hY])
  obtain ⟨K, hK⟩ : ∃ K, redN g (powN g X (bval t.data.toList)) = K := ⟨_, rfl⟩
  have HA := Lib.hid (show txt (redN g (powN g (bval (txt X).data.toList) (bval t.data.toList))) = txt K by rw [txt_val, hK])
  have HB := Lib.hid (show txt (redN g (powN g (bval (txt Y).data.toList) (bval s.data.toList))) = txt K by rw [txt_val, ← hY, pow_two, hX, hK])
  have HK := Lib.hid (show isS g (txt K).data.toList = true by rw [txt_data, ← hK]; exact isS_red _ hP)
  have HE := Lib.hid (show isEl g (txt X).data.toList = true by rw [txt_data, ← hX]; exact blind_el h2 hP (by rw [hX]; exact x1))
  have HF := Lib.hid (show isEl g (txt Y).data.toList = true by rw [txt_data, ← hY]; exact blind_el h2 hP (by rw [hY]; exact y1))
  clear h2
  have tx : (txt X).size ≤ 4000 := by rw [txt_size, ← hX]; exact Nat.le_trans (nbyt_24 (powN_lt _ _ _)) (by omega)
  have ty : (txt Y).size ≤ 4000 := by rw [txt_size, ← hY]; exact Nat.le_trans (nbyt_24 (powN_lt _ _ _)) (by omega)
  have hq : ((txt K).toList == (txt K).toList) = true := by simp
  have q0 : ((txt X).toList == []) = false := txt_ne (m := 0) (by omega)
  have q1 : ((txt X).toList == [1]) = false := txt_ne (m := 1) (by omega)
  have d0 : (g == 5) = false := by simpa using h
  clear hX hY hK hP hP2 hw1 hw2 HG hs2 ht2 x1 y1
  go_enter Try.func4, Try.ntmps4
  have B := Below.refl w.heap.size w
  go_wp2_with fail
  refine (sright_is g s true _ hS).mono ?_
  rintro e W1 ⟨rfl, hb⟩
  replace B := B.trans (hb.mono B.size)
  clear hb
  go_wp2_with fail
  refine (sright_is g t true _ hT).mono ?_
  rintro e W2 ⟨rfl, hb⟩
  replace B := B.trans (hb.mono B.size)
  clear hb
  go_wp2_with fail
  refine (sblind_is g s _ _ (by omega) HX.out).mono ?_
  rintro e W3 ⟨rfl, hb⟩
  replace B := B.trans (hb.mono B.size)
  clear hb
  go_wp2_with fail
  refine (sblind_is g t _ _ (by omega) HY.out).mono ?_
  rintro e W4 ⟨rfl, hb⟩
  replace B := B.trans (hb.mono B.size)
  clear hb
  go_wp2_with fail
  refine (sagree_is g (txt X) t _ _ tx (by omega) HA.out).mono ?_
  rintro e W5 ⟨rfl, hb⟩
  replace B := B.trans (hb.mono B.size)
  clear hb
  go_wp2_with fail
  refine (sagree_is g (txt Y) s _ _ ty (by omega) HB.out).mono ?_
  rintro e W6 ⟨rfl, hb⟩
  replace B := B.trans (hb.mono B.size)
  clear hb
  go_wp2_with fail
  refine (refElement_is g _ true _ (by omega) HE.out).mono ?_
  rintro e W7 ⟨rfl, hb⟩
  replace B := B.trans (hb.mono B.size)
  clear hb
  go_wp2_with fail
  refine (refElement_is g _ true _ (by omega) HF.out).mono ?_
  rintro e W8 ⟨rfl, hb⟩
  replace B := B.trans (hb.mono B.size)
  clear hb
  go_wp2_with fail
  refine (awake6_any _).mono ?_
  rintro e W9 ⟨rfl, hb⟩
  replace B := B.trans (hb.mono B.size)
  clear hb
  go_wp2_with fail
  refine (sright_is g _ true _ HK.out).mono ?_
  rintro e W10 ⟨rfl, hb⟩
  replace B := B.trans (hb.mono B.size)
  clear hb
  go_wp2
  go_ret
  exact ⟨rfl, B⟩

set_option maxRecDepth 100000 in
set_option maxHeartbeats 2000000 in
theorem secretAgrees_great (s t : ByteArray) (w : World) (HG : GreatOne)  (hS : isS 5 s.data.toList = true) (hT : isS 5 t.data.toList = true) : Calls Try.prog 4 #[.int .i64 5, .string s, .string t] w fun e w' => e = .returned (.bool true) ∧ Below w.heap.size w w' := by
  obtain ⟨hP, hs1, hw1, hs2⟩ := isS_iff.1 hS
  obtain ⟨hP2, ht1, hw2, ht2⟩ := isS_iff.1 hT
  rw [← size_data] at hs1 ht1
  obtain ⟨X, hX⟩ : ∃ X, powN 5 2 (bval s.data.toList) = X := ⟨_, rfl⟩
  obtain ⟨Y, hY⟩ : ∃ Y, powN 5 2 (bval t.data.toList) = Y := ⟨_, rfl⟩
  have x1 : 1 < X := by rw [← hX]; exact blind_ne HG hP hs2.1 hs2.2
  have y1 : 1 < Y := by rw [← hY]; exact blind_ne HG hP ht2.1 ht2.2
  have HX := Lib.hid (show txt (powN 5 2 (bval s.data.toList)) = txt X by rw [hX])
  have HY := Lib.hid (show txt (powN 5 2 (bval t.data.toList)) = txt Y by rw [hY])
  obtain ⟨K, hK⟩ : ∃ K, redN 5 (powN 5 X (bval t.data.toList)) = K := ⟨_, rfl⟩
  have HA := Lib.hid (show txt (redN 5 (powN 5 (bval (txt X).data.toList) (bval t.data.toList))) = txt K by rw [txt_val, hK])
  have HB := Lib.hid (show txt (redN 5 (powN 5 (bval (txt Y).data.toList) (bval s.data.toList))) = txt K by rw [txt_val, ← hY, pow_two, hX, hK])
  have HK := Lib.hid (show isS 5 (txt K).data.toList = true by rw [txt_data, ← hK]; exact isS_red _ hP)
  have tx : (txt X).size ≤ 4000 := by rw [txt_size, ← hX]; exact Nat.le_trans (nbyt_24 (powN_lt _ _ _)) (by omega)
  have ty : (txt Y).size ≤ 4000 := by rw [txt_size, ← hY]; exact Nat.le_trans (nbyt_24 (powN_lt _ _ _)) (by omega)
  have hq : ((txt K).toList == (txt K).toList) = true := by simp
  have q0 : ((txt X).toList == []) = false := txt_ne (m := 0) (by omega)
  have q1 : ((txt X).toList == [1]) = false := txt_ne (m := 1) (by omega)
  clear hX hY hK hP hP2 hw1 hw2 HG hs2 ht2 x1 y1
  go_enter Try.func4, Try.ntmps4
  have B := Below.refl w.heap.size w
  go_wp2_with fail
  refine (sright_is 5 s true _ hS).mono ?_
  rintro e W1 ⟨rfl, hb⟩
  replace B := B.trans (hb.mono B.size)
  clear hb
  go_wp2_with fail
  refine (sright_is 5 t true _ hT).mono ?_
  rintro e W2 ⟨rfl, hb⟩
  replace B := B.trans (hb.mono B.size)
  clear hb
  go_wp2_with fail
  refine (sblind_is 5 s _ _ (by omega) HX.out).mono ?_
  rintro e W3 ⟨rfl, hb⟩
  replace B := B.trans (hb.mono B.size)
  clear hb
  go_wp2_with fail
  refine (sblind_is 5 t _ _ (by omega) HY.out).mono ?_
  rintro e W4 ⟨rfl, hb⟩
  replace B := B.trans (hb.mono B.size)
  clear hb
  go_wp2_with fail
  refine (sagree_is 5 (txt X) t _ _ tx (by omega) HA.out).mono ?_
  rintro e W5 ⟨rfl, hb⟩
  replace B := B.trans (hb.mono B.size)
  clear hb
  go_wp2_with fail
  refine (sagree_is 5 (txt Y) s _ _ ty (by omega) HB.out).mono ?_
  rintro e W6 ⟨rfl, hb⟩
  replace B := B.trans (hb.mono B.size)
  clear hb
  go_wp2_with fail
  refine (awake6_any _).mono ?_
  rintro e W7 ⟨rfl, hb⟩
  replace B := B.trans (hb.mono B.size)
  clear hb
  go_wp2_with fail
  refine (sright_is 5 _ true _ HK.out).mono ?_
  rintro e W8 ⟨rfl, hb⟩
  replace B := B.trans (hb.mono B.size)
  clear hb
  go_wp2
  go_ret
  exact ⟨rfl, B⟩

theorem secretAgrees_if (HG : GreatOne) (g : Int) (s t : ByteArray) (w : World) (hg : (Lit.int .i64 g).wf = true) (hs : s.size ≤ maxLen) (ht : t.size ≤ maxLen) : Calls Try.prog 4 #[.int .i64 g, .string s, .string t] w fun e w' => e = .returned (.bool true) ∧ Below w.heap.size w w' := by
  cases hS : isS g s.data.toList with
  | false => exact secretAgrees_a g s t w hS
  | true =>
    cases hT : isS g t.data.toList with
    | false => exact secretAgrees_b g s t w hS hT
    | true =>
      rcases P_cases g with rfl | rfl | rfl | ⟨a, b, c⟩
      · exact secretAgrees_small 0 s t w HG (by decide) two_0 hS hT
      · exact secretAgrees_small 1 s t w HG (by decide) two_1 hS hT
      · exact secretAgrees_great s t w HG hS hT
      · exact absurd (P_no a b c) (isS_iff.1 hS).1

end Go.Proofs.Ytilbkfgbbajelaa
