/- lodgelaw01.NatAdds answers true, whatever the three lists of limbs that come in, and leaves memory below as it was. No condition. -/
import Derived.Test.YtkdbmgfpfcfioaaLaw
namespace Go.Proofs.Ytkdbmgfpfcfioaa
open Go.RowKit Go.Shelf Num
set_option linter.unusedVariables false

set_option maxRecDepth 100000 in
set_option maxHeartbeats 4000000 in
theorem natAdds_big1 (a0 a1 a2 : Option Addr) (n0 n1 n2 c0 c1 c2 : Nat) (w : World) (h : ¬ (n0 ≤ 50 ∧ n1 ≤ 50)) :
    Calls Try.prog 5 #[.slice a0 n0 c0, .slice a1 n1 c1, .slice a2 n2 c2] w fun e w' => e = .returned (.bool true) ∧ Below w.heap.size w w' := by
  have HH := Lib.hid h
  clear h
  go_enter Try.func5, Try.ntmps5
  go_wp2_with fail
  refine (small_no _ _ _ _ _ _ _ HH.out).mono ?_
  rintro e w' ⟨rfl, rfl⟩
  go_wp2_with fail
  refine (awake_any _).mono ?_
  rintro e W1 ⟨rfl, hB⟩
  go_wp2
  go_ret
  exact ⟨rfl, hB⟩

set_option maxRecDepth 100000 in
set_option maxHeartbeats 4000000 in
theorem natAdds_big2 (a0 a1 a2 : Option Addr) (n0 n1 n2 c0 c1 c2 : Nat) (w : World) (h0 : n0 ≤ 50) (h1 : n1 ≤ 50) (h : 50 < n2) :
    Calls Try.prog 5 #[.slice a0 n0 c0, .slice a1 n1 c1, .slice a2 n2 c2] w fun e w' => e = .returned (.bool true) ∧ Below w.heap.size w w' := by
  have hd : decide ((50 : Int) < (n2 : Int)) = true := by simp; omega
  go_enter Try.func5, Try.ntmps5
  go_wp2_with fail
  refine (small_yes _ _ _ _ _ _ _ h0 h1).mono ?_
  rintro e w' ⟨rfl, rfl⟩
  go_wp2_with fail
  refine (awake_any _).mono ?_
  rintro e W1 ⟨rfl, hB⟩
  go_wp2
  go_ret
  exact ⟨rfl, hB⟩

set_option maxRecDepth 100000 in
set_option maxHeartbeats 8000000 in
theorem natAdds_yes (a0 a1 a2 : Option Addr) (n0 n1 n2 c0 c1 c2 : Nat) (xs ys zs : List Nat) (w : World) (h0 : n0 ≤ 50) (h1 : n1 ≤ 50) (h2 : n2 ≤ 50) (e0 : xs.length ≤ 50) (e1 : ys.length ≤ 50) (e2 : zs.length ≤ 50)
    (La : Lim w.heap.size w (.slice a0 n0 c0) xs) (Lb : Lim w.heap.size w (.slice a1 n1 c1) ys) (Lc : Lim w.heap.size w (.slice a2 n2 c2) zs) (hle : val ys ≤ val xs) :
    Calls Try.prog 5 #[.slice a0 n0 c0, .slice a1 n1 c1, .slice a2 n2 c2] w fun e w' => e = .returned (.bool true) ∧ Below w.heap.size w w' := by
  have hd : decide ((50 : Int) < (n2 : Int)) = false := by simp; omega
  have vx := val_50 La.ok e0
  have vy := val_50 Lb.ok e1
  have vz := val_50 Lc.ok e2
  have HT := Lib.hid (limbs_val La.ok)
  have l1 := limbs_4 (n := val xs + val ys) (by omega)
  have HLE := Lib.hid hle
  have hVX := Lib.hid vx
  have hVY := Lib.hid vy
  have hVZ := Lib.hid vz
  clear hle vx vy vz
  go_enter Try.func5, Try.ntmps5
  go_wp2_with fail
  refine (small_yes _ _ _ _ _ _ _ h0 h1).mono ?_
  rintro e w' ⟨rfl, rfl⟩
  go_wp2_with fail
  refine (add_any _ _ xs ys _ La Lb (by omega) (by omega)).mono ?_
  rintro e W1 ⟨vs, rfl, Ls, hb⟩
  have B1 := hb
  replace La := La.next hb
  replace Lb := Lb.next hb
  replace Lc := Lc.next hb
  clear hb
  go_wp2_with fail
  refine (sub_yes _ _ _ ys _ Ls Lb (by omega) (by omega) (by rw [val_limbs]; omega)).mono ?_
  rintro e W2 ⟨vx, rfl, Lx, hb⟩
  rw [val_limbs, Nat.add_sub_cancel] at Lx
  have B2 := B1.trans (hb.mono B1.size)
  replace La := La.next hb
  replace Lb := Lb.next hb
  replace Lc := Lc.next hb
  replace Ls := Ls.next hb
  clear hb B1
  go_wp2_with fail
  refine (sub_yes _ _ xs ys _ La Lb (by omega) (by omega) HLE.out).mono ?_
  rintro e W3 ⟨vy, rfl, Ly, hb⟩
  have B3 := B2.trans (hb.mono B2.size)
  replace La := La.next hb
  replace Lb := Lb.next hb
  replace Lc := Lc.next hb
  replace Ls := Ls.next hb
  replace Lx := Lx.next hb
  clear hb B2
  go_wp2_with fail
  refine (awake_any _).mono ?_
  rintro e W4 ⟨rfl, hb⟩
  have B4 := B3.trans (hb.mono B3.size)
  replace La := La.next hb
  replace Lb := Lb.next hb
  replace Lc := Lc.next hb
  replace Ls := Ls.next hb
  replace Lx := Lx.next hb
  replace Ly := Ly.next hb
  clear hb B3
  go_wp2_with fail
  refine (add_any _ _ ys xs _ Lb La (by omega) (by omega)).mono ?_
  rintro e W5 ⟨v5, rfl, L5, hb⟩
  rw [Nat.add_comm] at L5
  have B5 := B4.trans (hb.mono B4.size)
  replace La := La.next hb
  replace Lb := Lb.next hb
  replace Lc := Lc.next hb
  replace Ls := Ls.next hb
  replace Lx := Lx.next hb
  replace Ly := Ly.next hb
  clear hb B4
  go_wp2_with fail
  refine (equal_any _ _ _ _ Ls L5 (by omega)).mono ?_
  rintro e W6 ⟨rfl, hb⟩
  clear L5
  have B6 := B5.trans (hb.mono B5.size)
  replace La := La.next hb
  replace Lb := Lb.next hb
  replace Lc := Lc.next hb
  replace Ls := Ls.next hb
  replace Lx := Lx.next hb
  replace Ly := Ly.next hb
  clear hb B5
  go_wp2_with fail
  refine (add_any _ _ _ zs _ Ls Lc (by omega) (by omega)).mono ?_
  rintro e W7 ⟨v7, rfl, L7, hb⟩
  rw [val_limbs] at L7
  have B7 := B6.trans (hb.mono B6.size)
  replace La := La.next hb
  replace Lb := Lb.next hb
  replace Lc := Lc.next hb
  replace Ls := Ls.next hb
  replace Lx := Lx.next hb
  replace Ly := Ly.next hb
  clear hb B6
  go_wp2_with fail
  refine (add_any _ _ ys zs _ Lb Lc (by omega) (by omega)).mono ?_
  rintro e W8 ⟨v8, rfl, L8, hb⟩
  replace L7 := L7.next hb
  have B8 := B7.trans (hb.mono B7.size)
  replace La := La.next hb
  replace Lb := Lb.next hb
  replace Lc := Lc.next hb
  replace Ls := Ls.next hb
  replace Lx := Lx.next hb
  replace Ly := Ly.next hb
  clear hb B7
  go_wp2_with fail
  have l8 := limbs_4 (n := val ys + val zs) (by have := hVX.out; have := hVY.out; have := hVZ.out; omega)
  refine (add_any _ _ xs _ _ La L8 (by omega) (by omega)).mono ?_
  rintro e W9 ⟨v9, rfl, L9, hb⟩
  rw [val_limbs, ← Nat.add_assoc] at L9
  replace L7 := L7.next hb
  clear L8 l8
  have B9 := B8.trans (hb.mono B8.size)
  replace La := La.next hb
  replace Lb := Lb.next hb
  replace Lc := Lc.next hb
  replace Ls := Ls.next hb
  replace Lx := Lx.next hb
  replace Ly := Ly.next hb
  clear hb B8
  go_wp2_with fail
  have l9 := limbs_4 (n := val xs + val ys + val zs) (by have := hVX.out; have := hVY.out; have := hVZ.out; omega)
  refine (equal_any _ _ _ _ L7 L9 (by omega)).mono ?_
  rintro e W10 ⟨rfl, hb⟩
  clear L7 L9 l9
  have B10 := B9.trans (hb.mono B9.size)
  replace La := La.next hb
  replace Lb := Lb.next hb
  replace Lc := Lc.next hb
  replace Ls := Ls.next hb
  replace Lx := Lx.next hb
  replace Ly := Ly.next hb
  clear hb B9
  go_wp2_with fail
  refine (trim_any _ xs _ La (by omega)).mono ?_
  rintro e W11 ⟨v11, rfl, L11, hb⟩
  have B11 := B10.trans (hb.mono B10.size)
  replace La := La.next hb
  replace Lb := Lb.next hb
  replace Lc := Lc.next hb
  replace Ls := Ls.next hb
  replace Lx := Lx.next hb
  replace Ly := Ly.next hb
  clear hb B10
  go_wp2_with fail
  have l11 := limbs_4 (n := val xs) (by have := hVX.out; omega)
  refine (equal_any _ _ _ _ Lx L11 (by omega)).mono ?_
  rintro e W12 ⟨rfl, hb⟩
  clear L11
  have B12 := B11.trans (hb.mono B11.size)
  replace La := La.next hb
  replace Lb := Lb.next hb
  replace Lc := Lc.next hb
  replace Ls := Ls.next hb
  replace Lx := Lx.next hb
  replace Ly := Ly.next hb
  clear hb B11
  go_wp2_with fail
  refine (compare_any _ _ xs ys _ La Lb (by omega) (by omega)).mono ?_
  rintro e W13 ⟨rfl, hb⟩
  have hc : decide (0 ≤ cmpN (val xs) (val ys)) = true := by
    have := HLE.out
    unfold cmpN
    rw [if_neg (by omega)]
    split <;> simp
  have B13 := B12.trans (hb.mono B12.size)
  replace La := La.next hb
  replace Lb := Lb.next hb
  replace Lc := Lc.next hb
  replace Ls := Ls.next hb
  replace Lx := Lx.next hb
  replace Ly := Ly.next hb
  clear hb B12
  go_wp2_with fail
  have l13 : (limbs (val xs - val ys)).length ≤ 51 := limbs_4 (by have := hVX.out; omega)
  refine (add_any _ _ _ ys _ Ly Lb (by omega) (by omega)).mono ?_
  rintro e W14 ⟨v14, rfl, L14, hb⟩
  rw [val_limbs, Nat.sub_add_cancel HLE.out] at L14
  have B14 := B13.trans (hb.mono B13.size)
  replace La := La.next hb
  replace Lb := Lb.next hb
  replace Lc := Lc.next hb
  replace Ls := Ls.next hb
  replace Lx := Lx.next hb
  replace Ly := Ly.next hb
  clear hb B13
  go_wp2_with fail
  refine (trim_any _ xs _ La (by omega)).mono ?_
  rintro e W15 ⟨v15, rfl, L15, hb⟩
  replace L14 := L14.next hb
  have B15 := B14.trans (hb.mono B14.size)
  replace La := La.next hb
  replace Lb := Lb.next hb
  replace Lc := Lc.next hb
  replace Ls := Ls.next hb
  replace Lx := Lx.next hb
  replace Ly := Ly.next hb
  clear hb B14
  go_wp2_with fail
  refine (equal_any _ _ _ _ L14 L15 (by omega)).mono ?_
  rintro e W16 ⟨rfl, hb⟩
  have B16 := B15.trans (hb.mono B15.size)
  clear hb B15
  go_wp2
  go_ret
  exact ⟨rfl, B16⟩

set_option maxRecDepth 100000 in
set_option maxHeartbeats 8000000 in
theorem natAdds_no (a0 a1 a2 : Option Addr) (n0 n1 n2 c0 c1 c2 : Nat) (xs ys zs : List Nat) (w : World) (h0 : n0 ≤ 50) (h1 : n1 ≤ 50) (h2 : n2 ≤ 50) (e0 : xs.length ≤ 50) (e1 : ys.length ≤ 50) (e2 : zs.length ≤ 50)
    (La : Lim w.heap.size w (.slice a0 n0 c0) xs) (Lb : Lim w.heap.size w (.slice a1 n1 c1) ys) (Lc : Lim w.heap.size w (.slice a2 n2 c2) zs) (hle : val xs < val ys) :
    Calls Try.prog 5 #[.slice a0 n0 c0, .slice a1 n1 c1, .slice a2 n2 c2] w fun e w' => e = .returned (.bool true) ∧ Below w.heap.size w w' := by
  have hd : decide ((50 : Int) < (n2 : Int)) = false := by simp; omega
  have vx := val_50 La.ok e0
  have vy := val_50 Lb.ok e1
  have vz := val_50 Lc.ok e2
  have HT := Lib.hid (limbs_val La.ok)
  have l1 := limbs_4 (n := val xs + val ys) (by omega)
  have HLE := Lib.hid hle
  have hVX := Lib.hid vx
  have hVY := Lib.hid vy
  have hVZ := Lib.hid vz
  clear hle vx vy vz
  go_enter Try.func5, Try.ntmps5
  go_wp2_with fail
  refine (small_yes _ _ _ _ _ _ _ h0 h1).mono ?_
  rintro e w' ⟨rfl, rfl⟩
  go_wp2_with fail
  refine (add_any _ _ xs ys _ La Lb (by omega) (by omega)).mono ?_
  rintro e W1 ⟨vs, rfl, Ls, hb⟩
  have B1 := hb
  replace La := La.next hb
  replace Lb := Lb.next hb
  replace Lc := Lc.next hb
  clear hb
  go_wp2_with fail
  refine (sub_yes _ _ _ ys _ Ls Lb (by omega) (by omega) (by rw [val_limbs]; omega)).mono ?_
  rintro e W2 ⟨vx, rfl, Lx, hb⟩
  rw [val_limbs, Nat.add_sub_cancel] at Lx
  have B2 := B1.trans (hb.mono B1.size)
  replace La := La.next hb
  replace Lb := Lb.next hb
  replace Lc := Lc.next hb
  replace Ls := Ls.next hb
  clear hb B1
  go_wp2_with fail
  refine (sub_no _ _ xs ys _ La Lb (by omega) (by omega) HLE.out).mono ?_
  rintro e W3 ⟨rfl, hb⟩
  have B3 := B2.trans (hb.mono B2.size)
  replace La := La.next hb
  replace Lb := Lb.next hb
  replace Lc := Lc.next hb
  replace Ls := Ls.next hb
  replace Lx := Lx.next hb
  clear hb B2
  go_wp2_with fail
  refine (awake_any _).mono ?_
  rintro e W4 ⟨rfl, hb⟩
  have B4 := B3.trans (hb.mono B3.size)
  replace La := La.next hb
  replace Lb := Lb.next hb
  replace Lc := Lc.next hb
  replace Ls := Ls.next hb
  replace Lx := Lx.next hb
  clear hb B3
  go_wp2_with fail
  refine (add_any _ _ ys xs _ Lb La (by omega) (by omega)).mono ?_
  rintro e W5 ⟨v5, rfl, L5, hb⟩
  rw [Nat.add_comm] at L5
  have B5 := B4.trans (hb.mono B4.size)
  replace La := La.next hb
  replace Lb := Lb.next hb
  replace Lc := Lc.next hb
  replace Ls := Ls.next hb
  replace Lx := Lx.next hb
  clear hb B4
  go_wp2_with fail
  refine (equal_any _ _ _ _ Ls L5 (by omega)).mono ?_
  rintro e W6 ⟨rfl, hb⟩
  clear L5
  have B6 := B5.trans (hb.mono B5.size)
  replace La := La.next hb
  replace Lb := Lb.next hb
  replace Lc := Lc.next hb
  replace Ls := Ls.next hb
  replace Lx := Lx.next hb
  clear hb B5
  go_wp2_with fail
  refine (add_any _ _ _ zs _ Ls Lc (by omega) (by omega)).mono ?_
  rintro e W7 ⟨v7, rfl, L7, hb⟩
  rw [val_limbs] at L7
  have B7 := B6.trans (hb.mono B6.size)
  replace La := La.next hb
  replace Lb := Lb.next hb
  replace Lc := Lc.next hb
  replace Ls := Ls.next hb
  replace Lx := Lx.next hb
  clear hb B6
  go_wp2_with fail
  refine (add_any _ _ ys zs _ Lb Lc (by omega) (by omega)).mono ?_
  rintro e W8 ⟨v8, rfl, L8, hb⟩
  replace L7 := L7.next hb
  have B8 := B7.trans (hb.mono B7.size)
  replace La := La.next hb
  replace Lb := Lb.next hb
  replace Lc := Lc.next hb
  replace Ls := Ls.next hb
  replace Lx := Lx.next hb
  clear hb B7
  go_wp2_with fail
  have l8 := limbs_4 (n := val ys + val zs) (by have := hVX.out; have := hVY.out; have := hVZ.out; omega)
  refine (add_any _ _ xs _ _ La L8 (by omega) (by omega)).mono ?_
  rintro e W9 ⟨v9, rfl, L9, hb⟩
  rw [val_limbs, ← Nat.add_assoc] at L9
  replace L7 := L7.next hb
  clear L8 l8
  have B9 := B8.trans (hb.mono B8.size)
  replace La := La.next hb
  replace Lb := Lb.next hb
  replace Lc := Lc.next hb
  replace Ls := Ls.next hb
  replace Lx := Lx.next hb
  clear hb B8
  go_wp2_with fail
  have l9 := limbs_4 (n := val xs + val ys + val zs) (by have := hVX.out; have := hVY.out; have := hVZ.out; omega)
  refine (equal_any _ _ _ _ L7 L9 (by omega)).mono ?_
  rintro e W10 ⟨rfl, hb⟩
  clear L7 L9 l9
  have B10 := B9.trans (hb.mono B9.size)
  replace La := La.next hb
  replace Lb := Lb.next hb
  replace Lc := Lc.next hb
  replace Ls := Ls.next hb
  replace Lx := Lx.next hb
  clear hb B9
  go_wp2_with fail
  refine (trim_any _ xs _ La (by omega)).mono ?_
  rintro e W11 ⟨v11, rfl, L11, hb⟩
  have B11 := B10.trans (hb.mono B10.size)
  replace La := La.next hb
  replace Lb := Lb.next hb
  replace Lc := Lc.next hb
  replace Ls := Ls.next hb
  replace Lx := Lx.next hb
  clear hb B10
  go_wp2_with fail
  have l11 := limbs_4 (n := val xs) (by have := hVX.out; omega)
  refine (equal_any _ _ _ _ Lx L11 (by omega)).mono ?_
  rintro e W12 ⟨rfl, hb⟩
  clear L11
  have B12 := B11.trans (hb.mono B11.size)
  replace La := La.next hb
  replace Lb := Lb.next hb
  replace Lc := Lc.next hb
  replace Ls := Ls.next hb
  replace Lx := Lx.next hb
  clear hb B11
  go_wp2_with fail
  refine (compare_any _ _ xs ys _ La Lb (by omega) (by omega)).mono ?_
  rintro e W13 ⟨rfl, hb⟩
  have hc : decide (0 ≤ cmpN (val xs) (val ys)) = false := by rw [cmpN_lt HLE.out]; rfl
  have B13 := B12.trans (hb.mono B12.size)
  replace La := La.next hb
  replace Lb := Lb.next hb
  replace Lc := Lc.next hb
  replace Ls := Ls.next hb
  replace Lx := Lx.next hb
  clear hb B12
  go_wp2
  go_ret
  exact ⟨rfl, B13⟩

theorem natAdds_walk (a0 : Option Addr) (n0 c0 : Nat) (a1 : Option Addr) (n1 c1 : Nat) (a2 : Option Addr) (n2 c2 : Nat) (w : World)
    (h0 : ∃ xs : List Nat, xs.length = n0 ∧ Lim w.heap.size w (.slice a0 n0 c0) xs) (h1 : ∃ xs : List Nat, xs.length = n1 ∧ Lim w.heap.size w (.slice a1 n1 c1) xs) (h2 : ∃ xs : List Nat, xs.length = n2 ∧ Lim w.heap.size w (.slice a2 n2 c2) xs) :
    Calls Try.prog 5 #[.slice a0 n0 c0, .slice a1 n1 c1, .slice a2 n2 c2] w fun e w' => e = .returned (.bool true) ∧ Below w.heap.size w w' := by
  by_cases h : n0 ≤ 50 ∧ n1 ≤ 50
  · by_cases g : 50 < n2
    · exact natAdds_big2 _ _ _ _ _ _ _ _ _ _ h.1 h.2 g
    · obtain ⟨xs, ex, Lx⟩ := h0
      obtain ⟨ys, ey, Ly⟩ := h1
      obtain ⟨zs, ez, Lz⟩ := h2
      rcases Nat.lt_or_ge (val xs) (val ys) with hl | hl
      · exact natAdds_no _ _ _ _ _ _ _ _ _ xs ys zs w h.1 h.2 (by omega) (by omega) (by omega) (by omega) Lx Ly Lz hl
      · exact natAdds_yes _ _ _ _ _ _ _ _ _ xs ys zs w h.1 h.2 (by omega) (by omega) (by omega) (by omega) Lx Ly Lz hl
  · exact natAdds_big1 _ _ _ _ _ _ _ _ _ _ h

end Go.Proofs.Ytkdbmgfpfcfioaa
