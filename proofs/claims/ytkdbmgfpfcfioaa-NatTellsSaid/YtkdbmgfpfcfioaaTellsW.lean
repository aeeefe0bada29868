/- lodgelaw01.NatTells answers true, whatever two lists of limbs come in, and leaves memory below as it was. No condition. -/
import Derived.Test.YtkdbmgfpfcfioaaLaw
import Derived.Test.YtkdbmgfpfcfioaaRefB
namespace Go.Proofs.Ytkdbmgfpfcfioaa
open Go.RowKit Go.Shelf Num
set_option linter.unusedVariables false

set_option maxRecDepth 100000 in
set_option maxHeartbeats 4000000 in
theorem natTells_big (a0 a1 : Option Addr) (n0 n1 c0 c1 : Nat) (w : World) (h : ¬ (n0 ≤ 50 ∧ n1 ≤ 50)) :
    Calls Try.prog 3 #[.slice a0 n0 c0, .slice a1 n1 c1] w fun e w' => e = .returned (.bool true) ∧ Below w.heap.size w w' := by
  have HH := Lib.hid h
  clear h
  go_enter Try.func3, Try.ntmps3
  go_wp2_with fail
  refine (small_no _ _ _ _ _ _ _ HH.out).mono ?_
  rintro e w' ⟨rfl, rfl⟩
  go_wp2_with fail
  refine (awake_any _).mono ?_
  rintro e W1 ⟨rfl, hB⟩
  go_wp2
  go_ret
  exact ⟨rfl, hB⟩

set_option maxRecDepth 100000 in
set_option maxHeartbeats 8000000 in
theorem natTells_yes (a0 a1 : Option Addr) (n0 n1 c0 c1 : Nat) (xs ys : List Nat) (w : World) (h0 : n0 ≤ 50) (h1 : n1 ≤ 50) (e0 : xs.length ≤ 50) (e1 : ys.length ≤ 50)
    (La : Lim w.heap.size w (.slice a0 n0 c0) xs) (Lb : Lim w.heap.size w (.slice a1 n1 c1) ys) (hle : val ys ≤ val xs) :
    Calls Try.prog 3 #[.slice a0 n0 c0, .slice a1 n1 c1] w fun e w' => e = .returned (.bool true) ∧ Below w.heap.size w w' := by
  have vx := val_50 La.ok e0
  have vy := val_50 Lb.ok e1
  have l1 := limbs_4 (n := val xs + val ys) (by omega)
  have l2 := limbs_4 (n := val xs - val ys) (by omega)
  have l3 := limbs_4 (n := val xs) (by omega)
  have HLE := Lib.hid hle
  clear hle vx vy
  go_enter Try.func3, Try.ntmps3
  go_wp2_with fail
  refine (small_yes _ _ _ _ _ _ _ h0 h1).mono ?_
  rintro e w' ⟨rfl, rfl⟩
  go_wp2_with fail
  refine (sub_yes _ _ xs ys _ La Lb (by omega) (by omega) HLE.out).mono ?_
  rintro e W1 ⟨vx, rfl, Lx, hb⟩
  have B1 := hb
  replace La := La.next hb
  replace Lb := Lb.next hb
  clear hb
  go_wp2_with fail
  refine (refSub_any _ _ xs ys _ La Lb (by omega) (by omega) HLE.out).mono ?_
  rintro e W2 ⟨vy, rfl, Ly, hb⟩
  have B2 := B1.trans (hb.mono B1.size)
  replace La := La.next hb
  replace Lb := Lb.next hb
  replace Lx := Lx.next hb
  clear hb B1
  go_wp2_with fail
  refine (awake_any _).mono ?_
  rintro e W3 ⟨rfl, hb⟩
  have B3 := B2.trans (hb.mono B2.size)
  replace La := La.next hb
  replace Lb := Lb.next hb
  replace Lx := Lx.next hb
  replace Ly := Ly.next hb
  clear hb B2
  go_wp2_with fail
  refine (add_any _ _ xs ys _ La Lb (by omega) (by omega)).mono ?_
  rintro e W4 ⟨v4, rfl, L4, hb⟩
  have B4 := B3.trans (hb.mono B3.size)
  replace La := La.next hb
  replace Lb := Lb.next hb
  replace Lx := Lx.next hb
  replace Ly := Ly.next hb
  clear hb B3
  go_wp2_with fail
  refine (refAdd_any _ _ xs ys _ La Lb (by omega) (by omega)).mono ?_
  rintro e W5 ⟨v5, rfl, L5, hb⟩
  replace L4 := L4.next hb
  have B5 := B4.trans (hb.mono B4.size)
  replace La := La.next hb
  replace Lb := Lb.next hb
  replace Lx := Lx.next hb
  replace Ly := Ly.next hb
  clear hb B4
  go_wp2_with fail
  refine (equal_any _ _ _ _ L4 L5 (by omega)).mono ?_
  rintro e W6 ⟨rfl, hb⟩
  clear L4 L5
  have B6 := B5.trans (hb.mono B5.size)
  replace La := La.next hb
  replace Lb := Lb.next hb
  replace Lx := Lx.next hb
  replace Ly := Ly.next hb
  clear hb B5
  go_wp2_with fail
  refine (equal_any _ _ _ _ Lx Ly (by omega)).mono ?_
  rintro e W7 ⟨rfl, hb⟩
  have B7 := B6.trans (hb.mono B6.size)
  replace La := La.next hb
  replace Lb := Lb.next hb
  clear hb B6
  go_wp2_with fail
  refine (compare_any _ _ xs ys _ La Lb (by omega) (by omega)).mono ?_
  rintro e W8 ⟨rfl, hb⟩
  have B8 := B7.trans (hb.mono B7.size)
  replace La := La.next hb
  replace Lb := Lb.next hb
  clear hb B7
  go_wp2_with fail
  refine (refCompare_any _ _ xs ys _ La Lb (by omega) (by omega)).mono ?_
  rintro e w' ⟨rfl, rfl⟩
  go_wp2_with fail
  refine (trim_any _ xs _ La (by omega)).mono ?_
  rintro e W9 ⟨v9, rfl, L9, hb⟩
  have B9 := B8.trans (hb.mono B8.size)
  replace La := La.next hb
  clear hb B8
  go_wp2_with fail
  refine (refTrim_any _ xs _ La (by omega)).mono ?_
  rintro e W10 ⟨v10, rfl, L10, hb⟩
  replace L9 := L9.next hb
  have B10 := B9.trans (hb.mono B9.size)
  clear hb B9
  go_wp2_with fail
  refine (equal_any _ _ _ _ L9 L10 (by omega)).mono ?_
  rintro e W11 ⟨rfl, hb⟩
  have B11 := B10.trans (hb.mono B10.size)
  go_wp2
  go_ret
  exact ⟨rfl, B11⟩

set_option maxRecDepth 100000 in
set_option maxHeartbeats 8000000 in
theorem natTells_no (a0 a1 : Option Addr) (n0 n1 c0 c1 : Nat) (xs ys : List Nat) (w : World) (h0 : n0 ≤ 50) (h1 : n1 ≤ 50) (e0 : xs.length ≤ 50) (e1 : ys.length ≤ 50)
    (La : Lim w.heap.size w (.slice a0 n0 c0) xs) (Lb : Lim w.heap.size w (.slice a1 n1 c1) ys) (hle : val xs < val ys) :
    Calls Try.prog 3 #[.slice a0 n0 c0, .slice a1 n1 c1] w fun e w' => e = .returned (.bool true) ∧ Below w.heap.size w w' := by
  have vx := val_50 La.ok e0
  have vy := val_50 Lb.ok e1
  have l1 := limbs_4 (n := val xs + val ys) (by omega)
  have l2 := limbs_4 (n := val xs - val ys) (by omega)
  have l3 := limbs_4 (n := val xs) (by omega)
  have HLE := Lib.hid hle
  clear hle vx vy
  go_enter Try.func3, Try.ntmps3
  go_wp2_with fail
  refine (small_yes _ _ _ _ _ _ _ h0 h1).mono ?_
  rintro e w' ⟨rfl, rfl⟩
  go_wp2_with fail
  refine (sub_no _ _ xs ys _ La Lb (by omega) (by omega) HLE.out).mono ?_
  rintro e W1 ⟨rfl, hb⟩
  have B1 := hb
  replace La := La.next hb
  replace Lb := Lb.next hb
  clear hb
  have Lx := Lim.nil W1.heap.size W1
  go_wp2_with fail
  refine (refSub_no _ _ xs ys _ La Lb (by omega) (by omega) HLE.out).mono ?_
  rintro e W2 ⟨rfl, rfl⟩
  have hb := Below.refl W1.heap.size W1
  have Ly := Lim.nil W1.heap.size W1
  have B2 := B1.trans (hb.mono B1.size)
  replace La := La.next hb
  replace Lb := Lb.next hb
  replace Lx := Lx.next hb
  clear hb B1
  go_wp2_with fail
  refine (awake_any _).mono ?_
  rintro e W3 ⟨rfl, hb⟩
  have B3 := B2.trans (hb.mono B2.size)
  replace La := La.next hb
  replace Lb := Lb.next hb
  replace Lx := Lx.next hb
  replace Ly := Ly.next hb
  clear hb B2
  go_wp2_with fail
  refine (add_any _ _ xs ys _ La Lb (by omega) (by omega)).mono ?_
  rintro e W4 ⟨v4, rfl, L4, hb⟩
  have B4 := B3.trans (hb.mono B3.size)
  replace La := La.next hb
  replace Lb := Lb.next hb
  replace Lx := Lx.next hb
  replace Ly := Ly.next hb
  clear hb B3
  go_wp2_with fail
  refine (refAdd_any _ _ xs ys _ La Lb (by omega) (by omega)).mono ?_
  rintro e W5 ⟨v5, rfl, L5, hb⟩
  replace L4 := L4.next hb
  have B5 := B4.trans (hb.mono B4.size)
  replace La := La.next hb
  replace Lb := Lb.next hb
  replace Lx := Lx.next hb
  replace Ly := Ly.next hb
  clear hb B4
  go_wp2_with fail
  refine (equal_any _ _ _ _ L4 L5 (by omega)).mono ?_
  rintro e W6 ⟨rfl, hb⟩
  clear L4 L5
  have B6 := B5.trans (hb.mono B5.size)
  replace La := La.next hb
  replace Lb := Lb.next hb
  replace Lx := Lx.next hb
  replace Ly := Ly.next hb
  clear hb B5
  go_wp2_with fail
  refine (equal_any _ _ _ _ Lx Ly (by simp)).mono ?_
  rintro e W7 ⟨rfl, hb⟩
  have B7 := B6.trans (hb.mono B6.size)
  replace La := La.next hb
  replace Lb := Lb.next hb
  clear hb B6
  go_wp2_with fail
  refine (compare_any _ _ xs ys _ La Lb (by omega) (by omega)).mono ?_
  rintro e W8 ⟨rfl, hb⟩
  have B8 := B7.trans (hb.mono B7.size)
  replace La := La.next hb
  replace Lb := Lb.next hb
  clear hb B7
  go_wp2_with fail
  refine (refCompare_any _ _ xs ys _ La Lb (by omega) (by omega)).mono ?_
  rintro e w' ⟨rfl, rfl⟩
  go_wp2_with fail
  refine (trim_any _ xs _ La (by omega)).mono ?_
  rintro e W9 ⟨v9, rfl, L9, hb⟩
  have B9 := B8.trans (hb.mono B8.size)
  replace La := La.next hb
  clear hb B8
  go_wp2_with fail
  refine (refTrim_any _ xs _ La (by omega)).mono ?_
  rintro e W10 ⟨v10, rfl, L10, hb⟩
  replace L9 := L9.next hb
  have B10 := B9.trans (hb.mono B9.size)
  clear hb B9
  go_wp2_with fail
  refine (equal_any _ _ _ _ L9 L10 (by omega)).mono ?_
  rintro e W11 ⟨rfl, hb⟩
  have B11 := B10.trans (hb.mono B10.size)
  go_wp2
  go_ret
  exact ⟨rfl, B11⟩

theorem natTells_walk (a0 : Option Addr) (n0 c0 : Nat) (a1 : Option Addr) (n1 c1 : Nat) (w : World)
    (h0 : ∃ xs : List Nat, xs.length = n0 ∧ Lim w.heap.size w (.slice a0 n0 c0) xs) (h1 : ∃ xs : List Nat, xs.length = n1 ∧ Lim w.heap.size w (.slice a1 n1 c1) xs) :
    Calls Try.prog 3 #[.slice a0 n0 c0, .slice a1 n1 c1] w fun e w' => e = .returned (.bool true) ∧ Below w.heap.size w w' := by
  by_cases h : n0 ≤ 50 ∧ n1 ≤ 50
  · obtain ⟨xs, ex, Lx⟩ := h0
    obtain ⟨ys, ey, Ly⟩ := h1
    rcases Nat.lt_or_ge (val xs) (val ys) with hl | hl
    · exact natTells_no _ _ _ _ _ _ xs ys w h.1 h.2 (by omega) (by omega) Lx Ly hl
    · exact natTells_yes _ _ _ _ _ _ xs ys w h.1 h.2 (by omega) (by omega) Lx Ly hl
  · exact natTells_big _ _ _ _ _ _ _ h

end Go.Proofs.Ytkdbmgfpfcfioaa
