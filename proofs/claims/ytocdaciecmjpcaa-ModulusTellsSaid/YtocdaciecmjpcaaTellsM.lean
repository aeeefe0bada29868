/- lodgelaw04.ModulusTells answers true, whatever comes in, and leaves memory below as it was. No condition. -/
import Derived.Test.YtocdaciecmjpcaaLaw4
namespace Go.Proofs.Ytocdaciecmjpcaa
open Go.RowKit Go.Shelf Num
set_option linter.unusedVariables false

set_option maxRecDepth 100000 in
set_option maxHeartbeats 8000000 in
theorem modTells_big (a0 : Option Addr) (n0 c0 : Nat) (a1 : Option Addr) (n1 c1 : Nat) (a2 : Option Addr) (n2 c2 : Nat) (w : World) (h : ¬ (n0 ≤ 3 ∧ n1 ≤ 3 ∧ n2 ≤ 3)) :
    Calls Try.prog 3 #[.slice a0 n0 c0, .slice a1 n1 c1, .slice a2 n2 c2] w fun e w' => e = .returned (.bool true) ∧ Below w.heap.size w w' := by
  go_enter Try.func3, Try.ntmps3
  have B := Below.refl w.heap.size w
  go_wp2_with fail
  refine (small3_no 3 _ _ _ _ _ _ _ _ _ w (by omega) h).mono ?_
  rintro e W1 ⟨rfl, hb⟩
  replace B := (al1 B _).trans (hb.mono (al1 B _).size)
  clear hb
  go_wp2_with fail
  refine (awake4_any _).mono ?_
  rintro e W2 ⟨rfl, hb⟩
  replace B := B.trans (hb.mono B.size)
  clear hb
  go_wp2
  go_ret
  exact ⟨rfl, B⟩

set_option maxRecDepth 100000 in
set_option maxHeartbeats 8000000 in
theorem modTells_zero (a0 : Option Addr) (c0 : Nat) (xs : List Nat) (a1 : Option Addr) (c1 : Nat) (ys : List Nat) (a2 : Option Addr) (c2 : Nat) (zs : List Nat) (w : World) (La : Lim w.heap.size w (.slice a0 xs.length c0) xs) (h0 : xs.length ≤ 3) (Lb : Lim w.heap.size w (.slice a1 ys.length c1) ys) (h1 : ys.length ≤ 3) (Lc : Lim w.heap.size w (.slice a2 zs.length c2) zs) (h2 : zs.length ≤ 3) (hz : val zs = 0) :
    Calls Try.prog 3 #[.slice a0 xs.length c0, .slice a1 ys.length c1, .slice a2 zs.length c2] w fun e w' => e = .returned (.bool true) ∧ Below w.heap.size w w' := by
  go_enter Try.func3, Try.ntmps3
  have B := Below.refl w.heap.size w
  go_wp2_with fail
  refine (small3_yes 3 _ _ _ _ _ _ _ _ _ w (by omega) h0 h1 h2).mono ?_
  rintro e W1 ⟨rfl, hb⟩
  replace La := ((La).alloc _).next hb
  replace Lb := ((Lb).alloc _).next hb
  replace Lc := ((Lc).alloc _).next hb
  replace B := (al1 B _).trans (hb.mono (al1 B _).size)
  clear hb
  go_wp2_with fail
  refine (power_zero _ _ _ xs ys zs _ La Lb Lc (by omega) (by omega) (by omega) hz).mono ?_
  rintro e W2 ⟨rfl, hb⟩
  replace La := La.next hb
  replace Lb := Lb.next hb
  replace Lc := Lc.next hb
  replace B := B.trans (hb.mono B.size)
  clear hb
  go_wp2_with fail
  refine (refPower_zero _ _ _ xs ys zs _ La Lb Lc (by omega) (by omega) (by omega) hz).mono ?_
  rintro e W3 ⟨rfl, hb⟩
  replace La := La.next hb
  replace Lb := Lb.next hb
  replace Lc := Lc.next hb
  replace B := B.trans (hb.mono B.size)
  clear hb
  go_wp2_with fail
  refine (mtimes_zero _ _ _ xs ys zs _ La Lb Lc (by omega) (by omega) (by omega) hz).mono ?_
  rintro e W4 ⟨rfl, hb⟩
  replace La := La.next hb
  replace Lb := Lb.next hb
  replace Lc := Lc.next hb
  replace B := B.trans (hb.mono B.size)
  clear hb
  go_wp2_with fail
  refine (refTimes_zero _ _ _ xs ys zs _ La Lb Lc (by omega) (by omega) (by omega) hz).mono ?_
  rintro e W5 ⟨rfl, hb⟩
  replace La := La.next hb
  replace Lb := Lb.next hb
  replace Lc := Lc.next hb
  replace B := B.trans (hb.mono B.size)
  clear hb
  go_wp2_with fail
  refine (rest_zero _ _ xs zs _ La Lc (by omega) (by omega) hz).mono ?_
  rintro e W6 ⟨rfl, hb⟩
  replace La := La.next hb
  replace Lb := Lb.next hb
  replace Lc := Lc.next hb
  replace B := B.trans (hb.mono B.size)
  clear hb
  go_wp2_with fail
  refine (refRest_zero _ _ xs zs _ La Lc (by omega) (by omega) hz).mono ?_
  rintro e W7 ⟨rfl, hb⟩
  replace La := La.next hb
  replace Lb := Lb.next hb
  replace Lc := Lc.next hb
  replace B := B.trans (hb.mono B.size)
  clear hb
  go_wp2_with fail
  refine (awake4_any _).mono ?_
  rintro e W8 ⟨rfl, hb⟩
  replace La := La.next hb
  replace Lb := Lb.next hb
  replace Lc := Lc.next hb
  replace B := B.trans (hb.mono B.size)
  clear hb
  go_wp2_with fail
  refine (same_any _ _ [] [] _ (Lim.nil _ _) (Lim.nil _ _) (by simp) (by simp) rfl).mono ?_
  rintro e W9 ⟨rfl, hb⟩
  replace La := La.next hb
  replace Lb := Lb.next hb
  replace Lc := Lc.next hb
  replace B := B.trans (hb.mono B.size)
  clear hb
  go_wp2_with fail
  refine (same_any _ _ [] [] _ (Lim.nil _ _) (Lim.nil _ _) (by simp) (by simp) rfl).mono ?_
  rintro e W10 ⟨rfl, hb⟩
  replace La := La.next hb
  replace Lb := Lb.next hb
  replace Lc := Lc.next hb
  replace B := B.trans (hb.mono B.size)
  clear hb
  go_wp2_with fail
  refine (same_any _ _ [] [] _ (Lim.nil _ _) (Lim.nil _ _) (by simp) (by simp) rfl).mono ?_
  rintro e W11 ⟨rfl, hb⟩
  replace La := La.next hb
  replace Lb := Lb.next hb
  replace Lc := Lc.next hb
  replace B := B.trans (hb.mono B.size)
  clear hb
  go_wp2
  go_ret
  exact ⟨rfl, B⟩

set_option maxRecDepth 100000 in
set_option maxHeartbeats 8000000 in
theorem modTells_main (a0 : Option Addr) (c0 : Nat) (xs : List Nat) (a1 : Option Addr) (c1 : Nat) (ys : List Nat) (a2 : Option Addr) (c2 : Nat) (zs : List Nat) (w : World) (La : Lim w.heap.size w (.slice a0 xs.length c0) xs) (h0 : xs.length ≤ 3) (Lb : Lim w.heap.size w (.slice a1 ys.length c1) ys) (h1 : ys.length ≤ 3) (Lc : Lim w.heap.size w (.slice a2 zs.length c2) zs) (h2 : zs.length ≤ 3) (hz : val zs ≠ 0) :
    Calls Try.prog 3 #[.slice a0 xs.length c0, .slice a1 ys.length c1, .slice a2 zs.length c2] w fun e w' => e = .returned (.bool true) ∧ Below w.heap.size w w' := by
  have HP := Lib.hid (pm_len Lc.ok hz h2)
  have HR := Lib.hid (fun a => Nat.le_trans (rem_len (a := a) Lc.ok hz) h2)
  have HX := Lib.hid (val_pow La.ok h0)
  have HY := Lib.hid (val_pow Lb.ok h1)
  have HZ := Lib.hid (val_pow Lc.ok h2)
  go_enter Try.func3, Try.ntmps3
  have B := Below.refl w.heap.size w
  go_wp2_with fail
  refine (small3_yes 3 _ _ _ _ _ _ _ _ _ w (by omega) h0 h1 h2).mono ?_
  rintro e W1 ⟨rfl, hb⟩
  replace La := ((La).alloc _).next hb
  replace Lb := ((Lb).alloc _).next hb
  replace Lc := ((Lc).alloc _).next hb
  replace B := (al1 B _).trans (hb.mono (al1 B _).size)
  clear hb
  go_wp2_with fail
  refine (power_any _ _ _ xs ys zs _ La Lb Lc (by omega) (by omega) (by omega) hz).mono ?_
  rintro e W2 ⟨v1, rfl, L1, hb⟩
  replace La := La.next hb
  replace Lb := Lb.next hb
  replace Lc := Lc.next hb
  replace B := B.trans (hb.mono B.size)
  clear hb
  go_wp2_with fail
  refine (refPower_any _ _ _ xs ys zs _ La Lb Lc (by omega) (by omega) (by omega) hz).mono ?_
  rintro e W3 ⟨v2, rfl, L2, hb⟩
  replace La := La.next hb
  replace Lb := Lb.next hb
  replace Lc := Lc.next hb
  replace L1 := L1.next hb
  replace B := B.trans (hb.mono B.size)
  clear hb
  go_wp2_with fail
  refine (mtimes_any _ _ _ xs ys zs _ La Lb Lc (by omega) (by omega) (by omega) hz).mono ?_
  rintro e W4 ⟨v3, rfl, L3, hb⟩
  replace La := La.next hb
  replace Lb := Lb.next hb
  replace Lc := Lc.next hb
  replace L1 := L1.next hb
  replace L2 := L2.next hb
  replace B := B.trans (hb.mono B.size)
  clear hb
  go_wp2_with fail
  refine (refTimes_any _ _ _ xs ys zs _ La Lb Lc (by omega) (by omega) (by omega) hz).mono ?_
  rintro e W5 ⟨v4, rfl, L4, hb⟩
  replace La := La.next hb
  replace Lb := Lb.next hb
  replace Lc := Lc.next hb
  replace L1 := L1.next hb
  replace L2 := L2.next hb
  replace L3 := L3.next hb
  replace B := B.trans (hb.mono B.size)
  clear hb
  go_wp2_with fail
  refine (rest_any _ _ xs zs _ La Lc (by omega) (by omega) hz).mono ?_
  rintro e W6 ⟨v5, rfl, L5, hb⟩
  replace La := La.next hb
  replace Lb := Lb.next hb
  replace Lc := Lc.next hb
  replace L1 := L1.next hb
  replace L2 := L2.next hb
  replace L3 := L3.next hb
  replace L4 := L4.next hb
  replace B := B.trans (hb.mono B.size)
  clear hb
  go_wp2_with fail
  refine (refRest_any _ _ xs zs _ La Lc (by omega) (by omega) hz).mono ?_
  rintro e W7 ⟨v6, rfl, L6, hb⟩
  replace La := La.next hb
  replace Lb := Lb.next hb
  replace Lc := Lc.next hb
  replace L1 := L1.next hb
  replace L2 := L2.next hb
  replace L3 := L3.next hb
  replace L4 := L4.next hb
  replace L5 := L5.next hb
  replace B := B.trans (hb.mono B.size)
  clear hb
  go_wp2_with fail
  refine (awake4_any _).mono ?_
  rintro e W8 ⟨rfl, hb⟩
  replace La := La.next hb
  replace Lb := Lb.next hb
  replace Lc := Lc.next hb
  replace L1 := L1.next hb
  replace L2 := L2.next hb
  replace L3 := L3.next hb
  replace L4 := L4.next hb
  replace L5 := L5.next hb
  replace L6 := L6.next hb
  replace B := B.trans (hb.mono B.size)
  clear hb
  go_wp2_with fail
  refine (same_any _ _ _ _ _ L1 L2 (Nat.le_trans (HP.out _ _) (by omega)) (Nat.le_trans (HP.out _ _) (by omega)) rfl).mono ?_
  rintro e W9 ⟨rfl, hb⟩
  replace La := La.next hb
  replace Lb := Lb.next hb
  replace Lc := Lc.next hb
  replace L1 := L1.next hb
  replace L2 := L2.next hb
  replace L3 := L3.next hb
  replace L4 := L4.next hb
  replace L5 := L5.next hb
  replace L6 := L6.next hb
  replace B := B.trans (hb.mono B.size)
  clear hb
  go_wp2_with fail
  refine (same_any _ _ _ _ _ L3 L4 (Nat.le_trans (HR.out _) (by omega)) (Nat.le_trans (HR.out _) (by omega)) rfl).mono ?_
  rintro e W10 ⟨rfl, hb⟩
  replace La := La.next hb
  replace Lb := Lb.next hb
  replace Lc := Lc.next hb
  replace L1 := L1.next hb
  replace L2 := L2.next hb
  replace L3 := L3.next hb
  replace L4 := L4.next hb
  replace L5 := L5.next hb
  replace L6 := L6.next hb
  replace B := B.trans (hb.mono B.size)
  clear hb
  go_wp2_with fail
  refine (same_any _ _ _ _ _ L5 L6 (Nat.le_trans (HR.out _) (by omega)) (Nat.le_trans (HR.out _) (by omega)) rfl).mono ?_
  rintro e W11 ⟨rfl, hb⟩
  replace La := La.next hb
  replace Lb := Lb.next hb
  replace Lc := Lc.next hb
  replace L1 := L1.next hb
  replace L2 := L2.next hb
  replace L3 := L3.next hb
  replace L4 := L4.next hb
  replace L5 := L5.next hb
  replace L6 := L6.next hb
  replace B := B.trans (hb.mono B.size)
  clear hb
  go_wp2
  go_ret
  exact ⟨rfl, B⟩

theorem modTells_any (a0 : Option Addr) (n0 c0 : Nat) (a1 : Option Addr) (n1 c1 : Nat) (a2 : Option Addr) (n2 c2 : Nat) (w : World) (w0 : ∃ xs : List Nat, xs.length = n0 ∧ Lim w.heap.size w (.slice a0 n0 c0) xs) (w1 : ∃ xs : List Nat, xs.length = n1 ∧ Lim w.heap.size w (.slice a1 n1 c1) xs) (w2 : ∃ xs : List Nat, xs.length = n2 ∧ Lim w.heap.size w (.slice a2 n2 c2) xs) :
    Calls Try.prog 3 #[.slice a0 n0 c0, .slice a1 n1 c1, .slice a2 n2 c2] w fun e w' => e = .returned (.bool true) ∧ Below w.heap.size w w' := by
  by_cases h : n0 ≤ 3 ∧ n1 ≤ 3 ∧ n2 ≤ 3
  rotate_left
  · exact modTells_big a0 n0 c0 a1 n1 c1 a2 n2 c2 w h
  obtain ⟨h0, h1, h2⟩ := h
  obtain ⟨x0, e0, L0⟩ := w0
  subst e0
  obtain ⟨x1, e1, L1⟩ := w1
  subst e1
  obtain ⟨x2, e2, L2⟩ := w2
  subst e2
  by_cases hz : val x2 = 0
  · exact modTells_zero _ _ _ _ _ _ _ _ _ w L0 h0 L1 h1 L2 h2 hz
  · exact modTells_main _ _ _ _ _ _ _ _ _ w L0 h0 L1 h1 L2 h2 hz

end Go.Proofs.Ytocdaciecmjpcaa
