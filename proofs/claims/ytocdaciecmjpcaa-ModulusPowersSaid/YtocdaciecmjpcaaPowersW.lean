/- lodgelaw04.ModulusPowers answers true, whatever comes in, and leaves memory below as it was. No condition. -/
import Derived.Test.YtocdaciecmjpcaaLaw4
namespace Go.Proofs.Ytocdaciecmjpcaa
open Go.RowKit Go.Shelf Num
set_option linter.unusedVariables false

theorem f_ok : 1000003 < M := by decide +kernel
theorem sum_len : (limbs (val [29] + val [1000003])).length ≤ 34359738368 := Nat.le_trans (limbs_len (k := 1) (by decide +kernel)) (by omega)

set_option maxRecDepth 100000 in
set_option maxHeartbeats 8000000 in
theorem modPowers_big (a0 : Option Addr) (n0 c0 : Nat) (a1 : Option Addr) (n1 c1 : Nat) (a2 : Option Addr) (n2 c2 : Nat) (w : World) (h : ¬ (n0 ≤ 4 ∧ n1 ≤ 4 ∧ n2 ≤ 4)) :
    Calls Try.prog 4 #[.slice a0 n0 c0, .slice a1 n1 c1, .slice a2 n2 c2] w fun e w' => e = .returned (.bool true) ∧ Below w.heap.size w w' := by
  go_enter Try.func4, Try.ntmps4
  have B := Below.refl w.heap.size w
  go_wp2_with fail
  refine (small3_no 4 _ _ _ _ _ _ _ _ _ w (by omega) h).mono ?_
  rintro e W1 ⟨rfl, hb⟩
  replace B := (al1 B _).trans (hb.mono (al1 B _).size)
  clear hb
  go_wp2_with fail
  refine (awake4_any _).mono ?_
  rintro e W2 ⟨rfl, hb⟩
  replace B := B.trans (hb.mono B.size)
  clear hb
  go_wp2
  go_ret
  exact ⟨rfl, B⟩

set_option maxRecDepth 100000 in
set_option maxHeartbeats 8000000 in
theorem modPowers_zero (a0 : Option Addr) (c0 : Nat) (xs : List Nat) (a1 : Option Addr) (c1 : Nat) (ys : List Nat) (a2 : Option Addr) (c2 : Nat) (zs : List Nat) (w : World) (La : Lim w.heap.size w (.slice a0 xs.length c0) xs) (h0 : xs.length ≤ 4) (Lb : Lim w.heap.size w (.slice a1 ys.length c1) ys) (h1 : ys.length ≤ 4) (Lc : Lim w.heap.size w (.slice a2 zs.length c2) zs) (h2 : zs.length ≤ 4) (hz : val zs = 0) :
    Calls Try.prog 4 #[.slice a0 xs.length c0, .slice a1 ys.length c1, .slice a2 zs.length c2] w fun e w' => e = .returned (.bool true) ∧ Below w.heap.size w w' := by
  have hq : (((nbits (val zs) : Nat) : Int) == 0) = true := by rw [hz]; rfl
  go_enter Try.func4, Try.ntmps4
  have B := Below.refl w.heap.size w
  go_wp2_with fail
  refine (small3_yes 4 _ _ _ _ _ _ _ _ _ w (by omega) h0 h1 h2).mono ?_
  rintro e W1 ⟨rfl, hb⟩
  replace Lc := ((Lc).alloc _).next hb
  replace B := (al1 B _).trans (hb.mono (al1 B _).size)
  clear hb
  go_wp2_with fail
  refine (refBits_any _ zs _ Lc (by omega)).mono ?_
  rintro e W2 ⟨rfl, hb⟩
  replace Lc := Lc.next hb
  replace B := B.trans (hb.mono B.size)
  clear hb
  go_wp2_with fail
  refine (awake4_any _).mono ?_
  rintro e W3 ⟨rfl, hb⟩
  replace Lc := Lc.next hb
  replace B := B.trans (hb.mono B.size)
  clear hb
  go_wp2
  go_ret
  exact ⟨rfl, B⟩

set_option maxRecDepth 100000 in
set_option maxHeartbeats 8000000 in
theorem modPowers_main (a0 : Option Addr) (c0 : Nat) (xs : List Nat) (a1 : Option Addr) (c1 : Nat) (ys : List Nat) (a2 : Option Addr) (c2 : Nat) (zs : List Nat) (w : World) (La : Lim w.heap.size w (.slice a0 xs.length c0) xs) (h0 : xs.length ≤ 4) (Lb : Lim w.heap.size w (.slice a1 ys.length c1) ys) (h1 : ys.length ≤ 4) (Lc : Lim w.heap.size w (.slice a2 zs.length c2) zs) (h2 : zs.length ≤ 4) (hz : val zs ≠ 0) :
    Calls Try.prog 4 #[.slice a0 xs.length c0, .slice a1 ys.length c1, .slice a2 zs.length c2] w fun e w' => e = .returned (.bool true) ∧ Below w.heap.size w w' := by
  have hq : (((nbits (val zs) : Nat) : Int) == 0) = false := bits_not hz
  have HP := Lib.hid (pm_len Lc.ok hz h2)
  have HR := Lib.hid (fun a => Nat.le_trans (rem_len (a := a) Lc.ok hz) h2)
  have HX := Lib.hid (val_pow La.ok h0)
  have HY := Lib.hid (val_pow Lb.ok h1)
  have HZ := Lib.hid (val_pow Lc.ok h2)
  go_enter Try.func4, Try.ntmps4
  have B := Below.refl w.heap.size w
  go_wp2_with fail
  refine (small3_yes 4 _ _ _ _ _ _ _ _ _ w (by omega) h0 h1 h2).mono ?_
  rintro e W1 ⟨rfl, hb⟩
  replace La := ((La).alloc _).next hb
  replace Lb := ((Lb).alloc _).next hb
  replace Lc := ((Lc).alloc _).next hb
  replace B := (al1 B _).trans (hb.mono (al1 B _).size)
  clear hb
  go_wp2_with fail
  refine (refBits_any _ zs _ Lc (by omega)).mono ?_
  rintro e W2 ⟨rfl, hb⟩
  replace La := La.next hb
  replace Lb := Lb.next hb
  replace Lc := Lc.next hb
  replace B := B.trans (hb.mono B.size)
  clear hb
  go_wp2_with fail
  refine (power_any _ _ _ xs [29] zs _ ((La.alloc _).alloc _) ((lim_lit1 W2 29 (under (by omega))).alloc _) ((Lc.alloc _).alloc _) (by omega) (by simp) (by omega) hz).mono ?_
  rintro e W3 ⟨vx, rfl, Lx, hb⟩
  have Le := ((lim_lit1 W2 29 (under (by omega))).alloc (.cells #[.int .u64 ((1000003 : Nat) : Int)] 31)).next hb
  have Lf := (lim_lit1' W2 (.cells #[.int .u64 ((29 : Nat) : Int)] 31) 1000003 f_ok).next hb
  replace La := ((((La).alloc _)).alloc _).next hb
  replace Lb := ((((Lb).alloc _)).alloc _).next hb
  replace Lc := ((((Lc).alloc _)).alloc _).next hb
  replace B := (al1 (al1 B _) _).trans (hb.mono (al1 (al1 B _) _).size)
  clear hb
  go_wp2_with fail
  refine (power_any _ _ _ xs [1000003] zs _ La Lf Lc (by omega) (by simp) (by omega) hz).mono ?_
  rintro e W4 ⟨vy, rfl, Ly, hb⟩
  replace La := La.next hb
  replace Lb := Lb.next hb
  replace Lc := Lc.next hb
  replace Lx := Lx.next hb
  replace Le := Le.next hb
  replace Lf := Lf.next hb
  replace B := B.trans (hb.mono B.size)
  clear hb
  go_wp2_with fail
  refine (mtimes_any _ _ _ _ _ zs _ Lx Ly Lc (Nat.le_trans (HP.out _ _) (by omega)) (Nat.le_trans (HP.out _ _) (by omega)) (by omega) hz).mono ?_
  rintro e W5 ⟨vz, rfl, Lz, hb⟩
  replace La := La.next hb
  replace Lb := Lb.next hb
  replace Lc := Lc.next hb
  replace Lx := Lx.next hb
  replace Le := Le.next hb
  replace Lf := Lf.next hb
  replace Ly := Ly.next hb
  replace B := B.trans (hb.mono B.size)
  clear hb
  rw [val_limbs, val_limbs, ← pm_add] at Lz
  go_wp2_with fail
  refine (refAdd_any _ _ [29] [1000003] _ Le Lf (by simp) (by simp)).mono ?_
  rintro e W6 ⟨v6, rfl, L6, hb⟩
  replace La := La.next hb
  replace Lb := Lb.next hb
  replace Lc := Lc.next hb
  replace Lx := Lx.next hb
  replace Le := Le.next hb
  replace Lf := Lf.next hb
  replace Ly := Ly.next hb
  replace Lz := Lz.next hb
  replace B := B.trans (hb.mono B.size)
  clear hb
  go_wp2_with fail
  refine (power_any _ _ _ xs _ zs _ La L6 Lc (by omega) sum_len (by omega) hz).mono ?_
  rintro e W7 ⟨vs, rfl, Ls, hb⟩
  replace La := La.next hb
  replace Lb := Lb.next hb
  replace Lc := Lc.next hb
  replace Lx := Lx.next hb
  replace Le := Le.next hb
  replace Lf := Lf.next hb
  replace Ly := Ly.next hb
  replace Lz := Lz.next hb
  replace L6 := L6.next hb
  replace B := B.trans (hb.mono B.size)
  clear hb
  rw [val_limbs] at Ls
  go_wp2_with fail
  refine (power_any _ _ _ _ [1000003] zs _ Lx Lf Lc (Nat.le_trans (HP.out _ _) (by omega)) (by simp) (by omega) hz).mono ?_
  rintro e W8 ⟨v8, rfl, L8, hb⟩
  replace La := La.next hb
  replace Lb := Lb.next hb
  replace Lc := Lc.next hb
  replace Lx := Lx.next hb
  replace Le := Le.next hb
  replace Lf := Lf.next hb
  replace Ly := Ly.next hb
  replace Lz := Lz.next hb
  replace Ls := Ls.next hb
  replace B := B.trans (hb.mono B.size)
  clear hb
  rw [val_limbs, ← pm_mul] at L8
  go_wp2_with fail
  refine (power_any _ _ _ _ [29] zs _ Ly Le Lc (Nat.le_trans (HP.out _ _) (by omega)) (by simp) (by omega) hz).mono ?_
  rintro e W9 ⟨v9, rfl, L9, hb⟩
  replace La := La.next hb
  replace Lb := Lb.next hb
  replace Lc := Lc.next hb
  replace Lx := Lx.next hb
  replace Le := Le.next hb
  replace Ly := Ly.next hb
  replace Lz := Lz.next hb
  replace Ls := Ls.next hb
  replace L8 := L8.next hb
  replace B := B.trans (hb.mono B.size)
  clear hb
  rw [val_limbs, ← pm_mul, Nat.mul_comm (val [1000003])] at L9
  go_wp2_with fail
  refine (mtimes_any _ _ _ xs ys zs _ La Lb Lc (by omega) (by omega) (by omega) hz).mono ?_
  rintro e W10 ⟨v10, rfl, L10, hb⟩
  replace La := La.next hb
  replace Lb := Lb.next hb
  replace Lc := Lc.next hb
  replace Lx := Lx.next hb
  replace Le := Le.next hb
  replace Lz := Lz.next hb
  replace Ls := Ls.next hb
  replace L8 := L8.next hb
  replace L9 := L9.next hb
  replace B := B.trans (hb.mono B.size)
  clear hb
  go_wp2_with fail
  refine (power_any _ _ _ _ [29] zs _ L10 Le Lc (Nat.le_trans (HR.out _) (by omega)) (by simp) (by omega) hz).mono ?_
  rintro e W11 ⟨v11, rfl, L11, hb⟩
  replace La := La.next hb
  replace Lb := Lb.next hb
  replace Lc := Lc.next hb
  replace Lx := Lx.next hb
  replace Le := Le.next hb
  replace Lz := Lz.next hb
  replace Ls := Ls.next hb
  replace L8 := L8.next hb
  replace L9 := L9.next hb
  replace L10 := L10.next hb
  replace B := B.trans (hb.mono B.size)
  clear hb
  rw [val_limbs, pm_mod, pm_prod] at L11
  go_wp2_with fail
  refine (power_any _ _ _ ys [29] zs _ Lb Le Lc (by omega) (by simp) (by omega) hz).mono ?_
  rintro e W12 ⟨v12, rfl, L12, hb⟩
  replace La := La.next hb
  replace Lb := Lb.next hb
  replace Lc := Lc.next hb
  replace Lx := Lx.next hb
  replace Le := Le.next hb
  replace Lz := Lz.next hb
  replace Ls := Ls.next hb
  replace L8 := L8.next hb
  replace L9 := L9.next hb
  replace L11 := L11.next hb
  replace B := B.trans (hb.mono B.size)
  clear hb
  go_wp2_with fail
  refine (mtimes_any _ _ _ _ _ zs _ Lx L12 Lc (Nat.le_trans (HP.out _ _) (by omega)) (Nat.le_trans (HP.out _ _) (by omega)) (by omega) hz).mono ?_
  rintro e W13 ⟨v13, rfl, L13, hb⟩
  replace La := La.next hb
  replace Lb := Lb.next hb
  replace Lc := Lc.next hb
  replace Lx := Lx.next hb
  replace Le := Le.next hb
  replace Lz := Lz.next hb
  replace Ls := Ls.next hb
  replace L8 := L8.next hb
  replace L9 := L9.next hb
  replace L11 := L11.next hb
  replace L12 := L12.next hb
  replace B := B.trans (hb.mono B.size)
  clear hb
  rw [val_limbs, val_limbs] at L13
  go_wp2_with fail
  refine (awake4_any _).mono ?_
  rintro e W14 ⟨rfl, hb⟩
  replace La := La.next hb
  replace Lb := Lb.next hb
  replace Lc := Lc.next hb
  replace Lx := Lx.next hb
  replace Lz := Lz.next hb
  replace Ls := Ls.next hb
  replace L8 := L8.next hb
  replace L9 := L9.next hb
  replace L11 := L11.next hb
  replace L13 := L13.next hb
  replace B := B.trans (hb.mono B.size)
  clear hb
  go_wp2_with fail
  refine (same_any _ _ _ _ _ Lz Ls (Nat.le_trans (HP.out _ _) (by omega)) (Nat.le_trans (HP.out _ _) (by omega)) rfl).mono ?_
  rintro e W15 ⟨rfl, hb⟩
  replace La := La.next hb
  replace Lb := Lb.next hb
  replace Lc := Lc.next hb
  replace Lx := Lx.next hb
  replace Lz := Lz.next hb
  replace Ls := Ls.next hb
  replace L8 := L8.next hb
  replace L9 := L9.next hb
  replace L11 := L11.next hb
  replace L13 := L13.next hb
  replace B := B.trans (hb.mono B.size)
  clear hb
  go_wp2_with fail
  refine (same_any _ _ _ _ _ L8 L9 (Nat.le_trans (HP.out _ _) (by omega)) (Nat.le_trans (HP.out _ _) (by omega)) rfl).mono ?_
  rintro e W16 ⟨rfl, hb⟩
  replace La := La.next hb
  replace Lb := Lb.next hb
  replace Lc := Lc.next hb
  replace Lx := Lx.next hb
  replace Lz := Lz.next hb
  replace L8 := L8.next hb
  replace L9 := L9.next hb
  replace L11 := L11.next hb
  replace L13 := L13.next hb
  replace B := B.trans (hb.mono B.size)
  clear hb
  go_wp2_with fail
  refine (same_any _ _ _ _ _ L11 L13 (Nat.le_trans (HR.out _) (by omega)) (Nat.le_trans (HR.out _) (by omega)) rfl).mono ?_
  rintro e W17 ⟨rfl, hb⟩
  replace La := La.next hb
  replace Lb := Lb.next hb
  replace Lc := Lc.next hb
  replace Lx := Lx.next hb
  replace Lz := Lz.next hb
  replace L11 := L11.next hb
  replace L13 := L13.next hb
  replace B := B.trans (hb.mono B.size)
  clear hb
  go_wp2_with fail
  refine (less_any _ _ _ zs _ Lx Lc (Nat.le_trans (HP.out _ _) (by omega)) (by omega) (by rw [val_limbs]; exact pm_lt _ _ (Nat.pos_of_ne_zero hz))).mono ?_
  rintro e W18 ⟨rfl, hb⟩
  replace La := La.next hb
  replace Lb := Lb.next hb
  replace Lc := Lc.next hb
  replace Lx := Lx.next hb
  replace Lz := Lz.next hb
  replace B := B.trans (hb.mono B.size)
  clear hb
  go_wp2_with fail
  refine (less_any _ _ _ zs _ Lz Lc (Nat.le_trans (HP.out _ _) (by omega)) (by omega) (by rw [val_limbs]; exact pm_lt _ _ (Nat.pos_of_ne_zero hz))).mono ?_
  rintro e W19 ⟨rfl, hb⟩
  replace La := La.next hb
  replace Lb := Lb.next hb
  replace Lc := Lc.next hb
  replace Lx := Lx.next hb
  replace Lz := Lz.next hb
  replace B := B.trans (hb.mono B.size)
  clear hb
  go_wp2
  go_ret
  exact ⟨rfl, B⟩

theorem modPowers_any (a0 : Option Addr) (n0 c0 : Nat) (a1 : Option Addr) (n1 c1 : Nat) (a2 : Option Addr) (n2 c2 : Nat) (w : World) (w0 : ∃ xs : List Nat, xs.length = n0 ∧ Lim w.heap.size w (.slice a0 n0 c0) xs) (w1 : ∃ xs : List Nat, xs.length = n1 ∧ Lim w.heap.size w (.slice a1 n1 c1) xs) (w2 : ∃ xs : List Nat, xs.length = n2 ∧ Lim w.heap.size w (.slice a2 n2 c2) xs) :
    Calls Try.prog 4 #[.slice a0 n0 c0, .slice a1 n1 c1, .slice a2 n2 c2] w fun e w' => e = .returned (.bool true) ∧ Below w.heap.size w w' := by
  by_cases h : n0 ≤ 4 ∧ n1 ≤ 4 ∧ n2 ≤ 4
  rotate_left
  · exact modPowers_big a0 n0 c0 a1 n1 c1 a2 n2 c2 w h
  obtain ⟨h0, h1, h2⟩ := h
  obtain ⟨x0, e0, L0⟩ := w0
  subst e0
  obtain ⟨x1, e1, L1⟩ := w1
  subst e1
  obtain ⟨x2, e2, L2⟩ := w2
  subst e2
  by_cases hz : val x2 = 0
  · exact modPowers_zero _ _ _ _ _ _ _ _ _ w L0 h0 L1 h1 L2 h2 hz
  · exact modPowers_main _ _ _ _ _ _ _ _ _ w L0 h0 L1 h1 L2 h2 hz

end Go.Proofs.Ytocdaciecmjpcaa
