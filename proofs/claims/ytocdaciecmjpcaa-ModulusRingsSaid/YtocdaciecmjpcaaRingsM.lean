/- lodgelaw04.ModulusRings answers true, whatever comes in, and leaves memory below as it was. No condition. -/
import Derived.Test.YtocdaciecmjpcaaLaw4
namespace Go.Proofs.Ytocdaciecmjpcaa
open Go.RowKit Go.Shelf Num
set_option linter.unusedVariables false

theorem rem_pow {a k : Nat} (h : a < M ^ k) (m : Nat) : a % m < M ^ k := Nat.lt_of_le_of_lt (Nat.mod_le _ _) h

set_option maxRecDepth 100000 in
set_option maxHeartbeats 8000000 in
theorem modRings_big (a0 : Option Addr) (n0 c0 : Nat) (a1 : Option Addr) (n1 c1 : Nat) (a2 : Option Addr) (n2 c2 : Nat) (w : World) (h : ¬ (n0 ≤ 6 ∧ n1 ≤ 6 ∧ n2 ≤ 6)) :
    Calls Try.prog 7 #[.slice a0 n0 c0, .slice a1 n1 c1, .slice a2 n2 c2] w fun e w' => e = .returned (.bool true) ∧ Below w.heap.size w w' := by
  go_enter Try.func7, Try.ntmps7
  have B := Below.refl w.heap.size w
  go_wp2_with fail
  refine (small3_no 6 _ _ _ _ _ _ _ _ _ w (by omega) h).mono ?_
  rintro e W1 ⟨rfl, hb⟩
  replace B := (al1 B _).trans (hb.mono (al1 B _).size)
  clear hb
  go_wp2_with fail
  refine (awake4_any _).mono ?_
  rintro e W2 ⟨rfl, hb⟩
  replace B := B.trans (hb.mono B.size)
  clear hb
  go_wp2
  go_ret
  exact ⟨rfl, B⟩

set_option maxRecDepth 100000 in
set_option maxHeartbeats 8000000 in
theorem modRings_zero (a0 : Option Addr) (c0 : Nat) (xs : List Nat) (a1 : Option Addr) (c1 : Nat) (ys : List Nat) (a2 : Option Addr) (c2 : Nat) (zs : List Nat) (w : World) (La : Lim w.heap.size w (.slice a0 xs.length c0) xs) (h0 : xs.length ≤ 6) (Lb : Lim w.heap.size w (.slice a1 ys.length c1) ys) (h1 : ys.length ≤ 6) (Lc : Lim w.heap.size w (.slice a2 zs.length c2) zs) (h2 : zs.length ≤ 6) (hz : val zs = 0) :
    Calls Try.prog 7 #[.slice a0 xs.length c0, .slice a1 ys.length c1, .slice a2 zs.length c2] w fun e w' => e = .returned (.bool true) ∧ Below w.heap.size w w' := by
  have hq : (((nbits (val zs) : Nat) : Int) == 0) = true := by rw [hz]; rfl
  go_enter Try.func7, Try.ntmps7
  have B := Below.refl w.heap.size w
  go_wp2_with fail
  refine (small3_yes 6 _ _ _ _ _ _ _ _ _ w (by omega) h0 h1 h2).mono ?_
  rintro e W1 ⟨rfl, hb⟩
  replace Lc := ((Lc).alloc _).next hb
  replace B := (al1 B _).trans (hb.mono (al1 B _).size)
  clear hb
  go_wp2_with fail
  refine (refBits_any _ zs _ Lc (by omega)).mono ?_
  rintro e W2 ⟨rfl, hb⟩
  replace Lc := Lc.next hb
  replace B := B.trans (hb.mono B.size)
  clear hb
  go_wp2_with fail
  refine (awake4_any _).mono ?_
  rintro e W3 ⟨rfl, hb⟩
  replace Lc := Lc.next hb
  replace B := B.trans (hb.mono B.size)
  clear hb
  go_wp2
  go_ret
  exact ⟨rfl, B⟩

set_option maxRecDepth 100000 in
set_option maxHeartbeats 8000000 in
theorem modRings_main (a0 : Option Addr) (c0 : Nat) (xs : List Nat) (a1 : Option Addr) (c1 : Nat) (ys : List Nat) (a2 : Option Addr) (c2 : Nat) (zs : List Nat) (w : World) (La : Lim w.heap.size w (.slice a0 xs.length c0) xs) (h0 : xs.length ≤ 6) (Lb : Lim w.heap.size w (.slice a1 ys.length c1) ys) (h1 : ys.length ≤ 6) (Lc : Lim w.heap.size w (.slice a2 zs.length c2) zs) (h2 : zs.length ≤ 6) (hz : val zs ≠ 0) :
    Calls Try.prog 7 #[.slice a0 xs.length c0, .slice a1 ys.length c1, .slice a2 zs.length c2] w fun e w' => e = .returned (.bool true) ∧ Below w.heap.size w w' := by
  have hq : (((nbits (val zs) : Nat) : Int) == 0) = false := bits_not hz
  have HP := Lib.hid (pm_len Lc.ok hz h2)
  have HR := Lib.hid (fun a => Nat.le_trans (rem_len (a := a) Lc.ok hz) h2)
  have HX := Lib.hid (val_pow La.ok h0)
  have HY := Lib.hid (val_pow Lb.ok h1)
  have HZ := Lib.hid (val_pow Lc.ok h2)
  go_enter Try.func7, Try.ntmps7
  have B := Below.refl w.heap.size w
  go_wp2_with fail
  refine (small3_yes 6 _ _ _ _ _ _ _ _ _ w (by omega) h0 h1 h2).mono ?_
  rintro e W1 ⟨rfl, hb⟩
  replace La := ((La).alloc _).next hb
  replace Lb := ((Lb).alloc _).next hb
  replace Lc := ((Lc).alloc _).next hb
  replace B := (al1 B _).trans (hb.mono (al1 B _).size)
  clear hb
  go_wp2_with fail
  refine (refBits_any _ zs _ Lc (by omega)).mono ?_
  rintro e W2 ⟨rfl, hb⟩
  replace La := La.next hb
  replace Lb := Lb.next hb
  replace Lc := Lc.next hb
  replace B := B.trans (hb.mono B.size)
  clear hb
  go_wp2_with fail
  refine (rest_any _ _ xs zs _ La Lc (by omega) (by omega) hz).mono ?_
  rintro e W3 ⟨vx, rfl, Lx, hb⟩
  replace La := La.next hb
  replace Lb := Lb.next hb
  replace Lc := Lc.next hb
  replace B := B.trans (hb.mono B.size)
  clear hb
  go_wp2_with fail
  refine (rest_any _ _ ys zs _ Lb Lc (by omega) (by omega) hz).mono ?_
  rintro e W4 ⟨vy, rfl, Ly, hb⟩
  replace La := La.next hb
  replace Lb := Lb.next hb
  replace Lc := Lc.next hb
  replace Lx := Lx.next hb
  replace B := B.trans (hb.mono B.size)
  clear hb
  go_wp2_with fail
  refine (mtimes_any _ _ _ xs ys zs _ La Lb Lc (by omega) (by omega) (by omega) hz).mono ?_
  rintro e W5 ⟨vu, rfl, Lu, hb⟩
  replace La := La.next hb
  replace Lb := Lb.next hb
  replace Lc := Lc.next hb
  replace Lx := Lx.next hb
  replace Ly := Ly.next hb
  replace B := B.trans (hb.mono B.size)
  clear hb
  go_wp2_with fail
  refine (mtimes_any _ _ _ _ _ zs _ Lx Ly Lc (Nat.le_trans (HR.out _) (by omega)) (Nat.le_trans (HR.out _) (by omega)) (by omega) hz).mono ?_
  rintro e W6 ⟨vv, rfl, Lv, hb⟩
  replace La := La.next hb
  replace Lb := Lb.next hb
  replace Lc := Lc.next hb
  replace Lx := Lx.next hb
  replace Ly := Ly.next hb
  replace Lu := Lu.next hb
  replace B := B.trans (hb.mono B.size)
  clear hb
  rw [val_limbs, val_limbs, ← Nat.mul_mod] at Lv
  go_wp2_with fail
  refine (refAdd_any _ _ xs ys _ La Lb (by omega) (by omega)).mono ?_
  rintro e W7 ⟨v7, rfl, L7, hb⟩
  replace La := La.next hb
  replace Lb := Lb.next hb
  replace Lc := Lc.next hb
  replace Lx := Lx.next hb
  replace Ly := Ly.next hb
  replace Lu := Lu.next hb
  replace Lv := Lv.next hb
  replace B := B.trans (hb.mono B.size)
  clear hb
  go_wp2_with fail
  refine (rest_any _ _ _ zs _ L7 Lc (Nat.le_trans (len_up (add_pow HX.out HY.out) (Nat.le_refl _)) (by omega)) (by omega) hz).mono ?_
  rintro e W8 ⟨v8, rfl, L8, hb⟩
  replace La := La.next hb
  replace Lb := Lb.next hb
  replace Lc := Lc.next hb
  replace Lx := Lx.next hb
  replace Ly := Ly.next hb
  replace Lu := Lu.next hb
  replace Lv := Lv.next hb
  replace L7 := L7.next hb
  replace B := B.trans (hb.mono B.size)
  clear hb
  rw [val_limbs] at L8
  go_wp2_with fail
  refine (refAdd_any _ _ _ _ _ Lx Ly (Nat.le_trans (HR.out _) (by omega)) (Nat.le_trans (HR.out _) (by omega))).mono ?_
  rintro e W9 ⟨v9, rfl, L9, hb⟩
  replace La := La.next hb
  replace Lb := Lb.next hb
  replace Lc := Lc.next hb
  replace Lx := Lx.next hb
  replace Ly := Ly.next hb
  replace Lu := Lu.next hb
  replace Lv := Lv.next hb
  replace L8 := L8.next hb
  replace B := B.trans (hb.mono B.size)
  clear hb
  rw [val_limbs, val_limbs] at L9
  go_wp2_with fail
  refine (rest_any _ _ _ zs _ L9 Lc (Nat.le_trans (len_up (add_pow (rem_pow HX.out (val zs)) (rem_pow HY.out (val zs))) (Nat.le_refl _)) (by omega)) (by omega) hz).mono ?_
  rintro e W10 ⟨v10, rfl, L10, hb⟩
  replace La := La.next hb
  replace Lb := Lb.next hb
  replace Lc := Lc.next hb
  replace Lx := Lx.next hb
  replace Lu := Lu.next hb
  replace Lv := Lv.next hb
  replace L8 := L8.next hb
  replace L9 := L9.next hb
  replace B := B.trans (hb.mono B.size)
  clear hb
  rw [val_limbs, ← Nat.add_mod] at L10
  go_wp2_with fail
  refine (awake4_any _).mono ?_
  rintro e W11 ⟨rfl, hb⟩
  replace La := La.next hb
  replace Lb := Lb.next hb
  replace Lc := Lc.next hb
  replace Lx := Lx.next hb
  replace Lu := Lu.next hb
  replace Lv := Lv.next hb
  replace L8 := L8.next hb
  replace L10 := L10.next hb
  replace B := B.trans (hb.mono B.size)
  clear hb
  go_wp2_with fail
  refine (same_any _ _ _ _ _ Lu Lv (Nat.le_trans (HR.out _) (by omega)) (Nat.le_trans (HR.out _) (by omega)) rfl).mono ?_
  rintro e W12 ⟨rfl, hb⟩
  replace La := La.next hb
  replace Lb := Lb.next hb
  replace Lc := Lc.next hb
  replace Lx := Lx.next hb
  replace Lu := Lu.next hb
  replace Lv := Lv.next hb
  replace L8 := L8.next hb
  replace L10 := L10.next hb
  replace B := B.trans (hb.mono B.size)
  clear hb
  go_wp2_with fail
  refine (same_any _ _ _ _ _ L8 L10 (Nat.le_trans (HR.out _) (by omega)) (Nat.le_trans (HR.out _) (by omega)) rfl).mono ?_
  rintro e W13 ⟨rfl, hb⟩
  replace La := La.next hb
  replace Lb := Lb.next hb
  replace Lc := Lc.next hb
  replace Lx := Lx.next hb
  replace L8 := L8.next hb
  replace L10 := L10.next hb
  replace B := B.trans (hb.mono B.size)
  clear hb
  go_wp2_with fail
  refine (less_any _ _ _ zs _ Lx Lc (Nat.le_trans (HR.out _) (by omega)) (by omega) (by rw [val_limbs]; exact Nat.mod_lt _ (Nat.pos_of_ne_zero hz))).mono ?_
  rintro e W14 ⟨rfl, hb⟩
  replace La := La.next hb
  replace Lb := Lb.next hb
  replace Lc := Lc.next hb
  replace Lx := Lx.next hb
  replace B := B.trans (hb.mono B.size)
  clear hb
  go_wp2
  go_ret
  exact ⟨rfl, B⟩

theorem modRings_any (a0 : Option Addr) (n0 c0 : Nat) (a1 : Option Addr) (n1 c1 : Nat) (a2 : Option Addr) (n2 c2 : Nat) (w : World) (w0 : ∃ xs : List Nat, xs.length = n0 ∧ Lim w.heap.size w (.slice a0 n0 c0) xs) (w1 : ∃ xs : List Nat, xs.length = n1 ∧ Lim w.heap.size w (.slice a1 n1 c1) xs) (w2 : ∃ xs : List Nat, xs.length = n2 ∧ Lim w.heap.size w (.slice a2 n2 c2) xs) :
    Calls Try.prog 7 #[.slice a0 n0 c0, .slice a1 n1 c1, .slice a2 n2 c2] w fun e w' => e = .returned (.bool true) ∧ Below w.heap.size w w' := by
  by_cases h : n0 ≤ 6 ∧ n1 ≤ 6 ∧ n2 ≤ 6
  rotate_left
  · exact modRings_big a0 n0 c0 a1 n1 c1 a2 n2 c2 w h
  obtain ⟨h0, h1, h2⟩ := h
  obtain ⟨x0, e0, L0⟩ := w0
  subst e0
  obtain ⟨x1, e1, L1⟩ := w1
  subst e1
  obtain ⟨x2, e2, L2⟩ := w2
  subst e2
  by_cases hz : val x2 = 0
  · exact modRings_zero _ _ _ _ _ _ _ _ _ w L0 h0 L1 h1 L2 h2 hz
  · exact modRings_main _ _ _ _ _ _ _ _ _ w L0 h0 L1 h1 L2 h2 hz

end Go.Proofs.Ytocdaciecmjpcaa
