/- lodgelaw04.ModulusSteps answers true, whatever comes in, and leaves memory below as it was. No condition. -/
import Derived.Test.YtocdaciecmjpcaaLaw4
namespace Go.Proofs.Ytocdaciecmjpcaa
open Go.RowKit Go.Shelf Num
set_option linter.unusedVariables false

set_option maxRecDepth 100000 in
set_option maxHeartbeats 8000000 in
theorem modSteps_big (a0 : Option Addr) (n0 c0 : Nat) (a1 : Option Addr) (n1 c1 : Nat) (a2 : Option Addr) (n2 c2 : Nat) (w : World) (h : ¬ (n0 ≤ 4 ∧ n1 ≤ 4 ∧ n2 ≤ 4)) :
    Calls Try.prog 5 #[.slice a0 n0 c0, .slice a1 n1 c1, .slice a2 n2 c2] w fun e w' => e = .returned (.bool true) ∧ Below w.heap.size w w' := by
  go_enter Try.func5, Try.ntmps5
  have B := Below.refl w.heap.size w
  go_wp2_with fail
  refine (small3_no 4 _ _ _ _ _ _ _ _ _ w (by omega) h).mono ?_
  rintro e W1 ⟨rfl, hb⟩
  replace B := (al1 B _).trans (hb.mono (al1 B _).size)
  clear hb
  go_wp2_with fail
  refine (awake4_any _).mono ?_
  rintro e W2 ⟨rfl, hb⟩
  replace B := B.trans (hb.mono B.size)
  clear hb
  go_wp2
  go_ret
  exact ⟨rfl, B⟩

set_option maxRecDepth 100000 in
set_option maxHeartbeats 8000000 in
theorem modSteps_zero (a0 : Option Addr) (c0 : Nat) (xs : List Nat) (a1 : Option Addr) (c1 : Nat) (ys : List Nat) (a2 : Option Addr) (c2 : Nat) (zs : List Nat) (w : World) (La : Lim w.heap.size w (.slice a0 xs.length c0) xs) (h0 : xs.length ≤ 4) (Lb : Lim w.heap.size w (.slice a1 ys.length c1) ys) (h1 : ys.length ≤ 4) (Lc : Lim w.heap.size w (.slice a2 zs.length c2) zs) (h2 : zs.length ≤ 4) (hz : val zs = 0) :
    Calls Try.prog 5 #[.slice a0 xs.length c0, .slice a1 ys.length c1, .slice a2 zs.length c2] w fun e w' => e = .returned (.bool true) ∧ Below w.heap.size w w' := by
  have hq : (((nbits (val zs) : Nat) : Int) == 0) = true := by rw [hz]; rfl
  go_enter Try.func5, Try.ntmps5
  have B := Below.refl w.heap.size w
  go_wp2_with fail
  refine (small3_yes 4 _ _ _ _ _ _ _ _ _ w (by omega) h0 h1 h2).mono ?_
  rintro e W1 ⟨rfl, hb⟩
  replace Lc := ((Lc).alloc _).next hb
  replace B := (al1 B _).trans (hb.mono (al1 B _).size)
  clear hb
  go_wp2_with fail
  refine (refBits_any _ zs _ Lc (by omega)).mono ?_
  rintro e W2 ⟨rfl, hb⟩
  replace Lc := Lc.next hb
  replace B := B.trans (hb.mono B.size)
  clear hb
  go_wp2_with fail
  refine (awake4_any _).mono ?_
  rintro e W3 ⟨rfl, hb⟩
  replace Lc := Lc.next hb
  replace B := B.trans (hb.mono B.size)
  clear hb
  go_wp2
  go_ret
  exact ⟨rfl, B⟩

set_option maxRecDepth 100000 in
set_option maxHeartbeats 8000000 in
theorem modSteps_main (a0 : Option Addr) (c0 : Nat) (xs : List Nat) (a1 : Option Addr) (c1 : Nat) (ys : List Nat) (a2 : Option Addr) (c2 : Nat) (zs : List Nat) (w : World) (La : Lim w.heap.size w (.slice a0 xs.length c0) xs) (h0 : xs.length ≤ 4) (Lb : Lim w.heap.size w (.slice a1 ys.length c1) ys) (h1 : ys.length ≤ 4) (Lc : Lim w.heap.size w (.slice a2 zs.length c2) zs) (h2 : zs.length ≤ 4) (hz : val zs ≠ 0) :
    Calls Try.prog 5 #[.slice a0 xs.length c0, .slice a1 ys.length c1, .slice a2 zs.length c2] w fun e w' => e = .returned (.bool true) ∧ Below w.heap.size w w' := by
  have hq : (((nbits (val zs) : Nat) : Int) == 0) = false := bits_not hz
  have HP := Lib.hid (pm_len Lc.ok hz h2)
  have HR := Lib.hid (fun a => Nat.le_trans (rem_len (a := a) Lc.ok hz) h2)
  have HX := Lib.hid (val_pow La.ok h0)
  have HY := Lib.hid (val_pow Lb.ok h1)
  have HZ := Lib.hid (val_pow Lc.ok h2)
  go_enter Try.func5, Try.ntmps5
  have B := Below.refl w.heap.size w
  go_wp2_with fail
  refine (small3_yes 4 _ _ _ _ _ _ _ _ _ w (by omega) h0 h1 h2).mono ?_
  rintro e W1 ⟨rfl, hb⟩
  replace La := ((La).alloc _).next hb
  replace Lb := ((Lb).alloc _).next hb
  replace Lc := ((Lc).alloc _).next hb
  replace B := (al1 B _).trans (hb.mono (al1 B _).size)
  clear hb
  go_wp2_with fail
  refine (refBits_any _ zs _ Lc (by omega)).mono ?_
  rintro e W2 ⟨rfl, hb⟩
  replace La := La.next hb
  replace Lb := Lb.next hb
  replace Lc := Lc.next hb
  replace B := B.trans (hb.mono B.size)
  clear hb
  go_wp2_with fail
  refine (power_any _ _ _ xs ys zs _ La Lb Lc (by omega) (by omega) (by omega) hz).mono ?_
  rintro e W3 ⟨vx, rfl, Lx, hb⟩
  replace La := La.next hb
  replace Lb := Lb.next hb
  replace Lc := Lc.next hb
  replace B := B.trans (hb.mono B.size)
  clear hb
  go_wp2_with fail
  refine (refAdd_any _ _ ys [1] _ (Lb.alloc _) (lim_lit1 W3 1 (under (by omega))) (by omega) (by simp)).mono ?_
  rintro e W4 ⟨vs, rfl, Ls, hb⟩
  replace La := ((La).alloc _).next hb
  replace Lb := ((Lb).alloc _).next hb
  replace Lc := ((Lc).alloc _).next hb
  replace Lx := ((Lx).alloc _).next hb
  replace B := (al1 B _).trans (hb.mono (al1 B _).size)
  clear hb
  rw [val_1] at Ls
  go_wp2_with fail
  refine (power_any _ _ _ xs _ zs _ La Ls Lc (by omega) (Nat.le_trans (len_up (add_pow HY.out (show 1 < M ^ 4 by decide +kernel)) (Nat.le_refl _)) (by omega)) (by omega) hz).mono ?_
  rintro e W5 ⟨vy, rfl, Ly, hb⟩
  replace La := La.next hb
  replace Lb := Lb.next hb
  replace Lc := Lc.next hb
  replace Lx := Lx.next hb
  replace Ls := Ls.next hb
  replace B := B.trans (hb.mono B.size)
  clear hb
  rw [val_limbs] at Ly
  go_wp2_with fail
  refine (mtimes_any _ _ _ _ xs zs _ Lx La Lc (Nat.le_trans (HP.out _ _) (by omega)) (by omega) (by omega) hz).mono ?_
  rintro e W6 ⟨vz, rfl, Lz, hb⟩
  replace La := La.next hb
  replace Lb := Lb.next hb
  replace Lc := Lc.next hb
  replace Lx := Lx.next hb
  replace Ly := Ly.next hb
  replace B := B.trans (hb.mono B.size)
  clear hb
  rw [val_limbs, ← pm_succ] at Lz
  go_wp2_with fail
  refine (power_any _ _ _ xs [] zs _ La (Lim.nil _ _) Lc (by omega) (by simp) (by omega) hz).mono ?_
  rintro e W7 ⟨vo, rfl, Lo, hb⟩
  replace La := La.next hb
  replace Lb := Lb.next hb
  replace Lc := Lc.next hb
  replace Lx := Lx.next hb
  replace Ly := Ly.next hb
  replace Lz := Lz.next hb
  replace B := B.trans (hb.mono B.size)
  clear hb
  rw [eg_nil, pm_zero] at Lo
  go_wp2_with fail
  refine (rest_any _ _ [1] zs _ (lim_lit1 W7 1 (under (by omega))) (Lc.alloc _) (by simp) (by omega) hz).mono ?_
  rintro e W8 ⟨vi, rfl, Li, hb⟩
  replace La := ((La).alloc _).next hb
  replace Lb := ((Lb).alloc _).next hb
  replace Lc := ((Lc).alloc _).next hb
  replace Lx := ((Lx).alloc _).next hb
  replace Ly := ((Ly).alloc _).next hb
  replace Lz := ((Lz).alloc _).next hb
  replace Lo := ((Lo).alloc _).next hb
  replace B := (al1 B _).trans (hb.mono (al1 B _).size)
  clear hb
  rw [val_1] at Li
  go_wp2_with fail
  refine (refAdd_any _ _ xs zs _ La Lc (by omega) (by omega)).mono ?_
  rintro e W9 ⟨vq, rfl, Lq, hb⟩
  replace La := La.next hb
  replace Lb := Lb.next hb
  replace Lc := Lc.next hb
  replace Lx := Lx.next hb
  replace Ly := Ly.next hb
  replace Lz := Lz.next hb
  replace Lo := Lo.next hb
  replace Li := Li.next hb
  replace B := B.trans (hb.mono B.size)
  clear hb
  go_wp2_with fail
  refine (power_any _ _ _ _ ys zs _ Lq Lb Lc (Nat.le_trans (len_up (add_pow HX.out HZ.out) (Nat.le_refl _)) (by omega)) (by omega) (by omega) hz).mono ?_
  rintro e W10 ⟨vm, rfl, Lm, hb⟩
  replace La := La.next hb
  replace Lb := Lb.next hb
  replace Lc := Lc.next hb
  replace Lx := Lx.next hb
  replace Ly := Ly.next hb
  replace Lz := Lz.next hb
  replace Lo := Lo.next hb
  replace Li := Li.next hb
  replace Lq := Lq.next hb
  replace B := B.trans (hb.mono B.size)
  clear hb
  rw [val_limbs, pm_same (val ys) (Nat.add_mod_right (val xs) (val zs))] at Lm
  go_wp2_with fail
  refine (awake4_any _).mono ?_
  rintro e W11 ⟨rfl, hb⟩
  replace La := La.next hb
  replace Lb := Lb.next hb
  replace Lc := Lc.next hb
  replace Lx := Lx.next hb
  replace Ly := Ly.next hb
  replace Lz := Lz.next hb
  replace Lo := Lo.next hb
  replace Li := Li.next hb
  replace Lm := Lm.next hb
  replace B := B.trans (hb.mono B.size)
  clear hb
  go_wp2_with fail
  refine (same_any _ _ _ _ _ Ly Lz (Nat.le_trans (HP.out _ _) (by omega)) (Nat.le_trans (HP.out _ _) (by omega)) rfl).mono ?_
  rintro e W12 ⟨rfl, hb⟩
  replace La := La.next hb
  replace Lb := Lb.next hb
  replace Lc := Lc.next hb
  replace Lx := Lx.next hb
  replace Ly := Ly.next hb
  replace Lz := Lz.next hb
  replace Lo := Lo.next hb
  replace Li := Li.next hb
  replace Lm := Lm.next hb
  replace B := B.trans (hb.mono B.size)
  clear hb
  go_wp2_with fail
  refine (same_any _ _ _ _ _ Lo Li (Nat.le_trans (HR.out _) (by omega)) (Nat.le_trans (HR.out _) (by omega)) rfl).mono ?_
  rintro e W13 ⟨rfl, hb⟩
  replace La := La.next hb
  replace Lb := Lb.next hb
  replace Lc := Lc.next hb
  replace Lx := Lx.next hb
  replace Lo := Lo.next hb
  replace Li := Li.next hb
  replace Lm := Lm.next hb
  replace B := B.trans (hb.mono B.size)
  clear hb
  go_wp2_with fail
  refine (same_any _ _ _ _ _ Lm Lx (Nat.le_trans (HP.out _ _) (by omega)) (Nat.le_trans (HP.out _ _) (by omega)) rfl).mono ?_
  rintro e W14 ⟨rfl, hb⟩
  replace La := La.next hb
  replace Lb := Lb.next hb
  replace Lc := Lc.next hb
  replace Lx := Lx.next hb
  replace Lm := Lm.next hb
  replace B := B.trans (hb.mono B.size)
  clear hb
  go_wp2
  go_ret
  exact ⟨rfl, B⟩

theorem modSteps_any (a0 : Option Addr) (n0 c0 : Nat) (a1 : Option Addr) (n1 c1 : Nat) (a2 : Option Addr) (n2 c2 : Nat) (w : World) (w0 : ∃ xs : List Nat, xs.length = n0 ∧ Lim w.heap.size w (.slice a0 n0 c0) xs) (w1 : ∃ xs : List Nat, xs.length = n1 ∧ Lim w.heap.size w (.slice a1 n1 c1) xs) (w2 : ∃ xs : List Nat, xs.length = n2 ∧ Lim w.heap.size w (.slice a2 n2 c2) xs) :
    Calls Try.prog 5 #[.slice a0 n0 c0, .slice a1 n1 c1, .slice a2 n2 c2] w fun e w' => e = .returned (.bool true) ∧ Below w.heap.size w w' := by
  by_cases h : n0 ≤ 4 ∧ n1 ≤ 4 ∧ n2 ≤ 4
  rotate_left
  · exact modSteps_big a0 n0 c0 a1 n1 c1 a2 n2 c2 w h
  obtain ⟨h0, h1, h2⟩ := h
  obtain ⟨x0, e0, L0⟩ := w0
  subst e0
  obtain ⟨x1, e1, L1⟩ := w1
  subst e1
  obtain ⟨x2, e2, L2⟩ := w2
  subst e2
  by_cases hz : val x2 = 0
  · exact modSteps_zero _ _ _ _ _ _ _ _ _ w L0 h0 L1 h1 L2 h2 hz
  · exact modSteps_main _ _ _ _ _ _ _ _ _ w L0 h0 L1 h1 L2 h2 hz

end Go.Proofs.Ytocdaciecmjpcaa
