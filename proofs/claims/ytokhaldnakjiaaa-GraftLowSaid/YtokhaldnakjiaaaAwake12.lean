/- The document's examples of layer 12 hold (lodgelaw12.awake answers true), and memory below is left as it was. No condition. -/
import Derived.Test.YtokhaldnakjiaaaGraC
import Derived.Test.YtokhaldnakjiaaaLens
namespace Go.Proofs.Ytokhaldnakjiaaa
open Go Go.RowKit
set_option linter.unusedVariables false

def exG : Option Tr := some (.inner 0 0 (.inner 0 0 (.leaf 0 1) (.leaf 1 1)) (.leaf 2 1))
def exX : Option Tr := graftO exG (some (.leaf 3 1))
def exY : Option Tr := graftO exX (some (.leaf 4 1))
def exM : List (Option Tr) := [some (.leaf 4 1), exG, some (.leaf 3 1)]
theorem exG_ok : okT (spo exG) = true := by decide +kernel
theorem exX_ok : okT (spo exX) = true := by decide +kernel
theorem exY_ok : okT (spo exY) = true := by decide +kernel
theorem exL_ok (n : Nat) (h : n < 8) : okT (spo (some (.leaf (n : Int) 1))) = true := by
  have : ∀ n : Fin 8, okT (spo (some (.leaf (n.val : Int) 1))) = true := by decide +kernel
  exact this ⟨n, h⟩
theorem exG_ht : htO exG ≤ 20 := by decide +kernel
theorem exX_ht : htO exX ≤ 20 := by decide +kernel
theorem exM_z : spo (mergeO exM) = spo exY := by decide +kernel
theorem exM_ok : ∀ x ∈ exM, okT (spo x) = true ∧ htO x ≤ 5 := by
  intro x hx
  simp only [exM, List.mem_cons, List.not_mem_nil, or_false] at hx
  rcases hx with rfl | rfl | rfl
  · decide +kernel
  · decide +kernel
  · decide +kernel
theorem exM_nd : (allO exM).Nodup := by decide +kernel
theorem exM_len : (allO exM).length ≤ 60 := by decide +kernel
theorem exG_place : placeO exG 0 = (1, 1) := by decide +kernel
theorem exX_place : placeO exX 0 = (0, 0) := by decide +kernel
theorem exG_put : spo (putO exG 3 0 (some (.leaf 5 1))) = spo exG := by decide +kernel
theorem exX_is : joinS (joinS [(true, 0, 1)] [(true, 1, 1)]) (joinS [(true, 2, 1)] [(true, 3, 1)]) = spo exX := by decide +kernel
theorem exY_is : joinS (spo exX) [(true, 4, 1)] = spo exY := by decide +kernel
theorem exY_len : (spo exY).length ≤ 1000 := by decide +kernel
theorem exX_len : (spo exX).length ≤ 1000 := by decide +kernel
theorem exG_len : (spo exG).length ≤ 1000 := by decide +kernel
theorem exN_len : (spo (mergeO [])).length = 0 := rfl
/-- A slice of three, laid. -/
theorem three_heads (w : World) (a b c : Hd) (t : TypeId) (g : Nat) (hg : w.heap.size = g) : Heads (g + 1) (w.alloc (.cells #[.slice a.1 a.2.1 a.2.2, .slice b.1 b.2.1 b.2.2, .slice c.1 c.2.1 c.2.2] t)) [a, b, c] [.slice (some ⟨g, 0, none⟩) 3 3] := by
  subst hg
  refine ⟨some ⟨w.heap.size, 0, none⟩, 3, rfl, Nat.le_refl _, by decide, (fun h => by cases h), fun _ => ⟨w.heap.size, 0, rfl, by omega, fun i hi => ?_⟩⟩
  match i, hi with
  | 0, _ => exact ⟨hC a, rfl, fun j hj => by
      have : j = 0 := by omega
      subst this; simp, rfl⟩
  | 1, _ => exact ⟨hC b, rfl, fun j hj => by
      have : j = 0 := by omega
      subst this; simp, rfl⟩
  | 2, _ => exact ⟨hC c, rfl, fun j hj => by
      have : j = 0 := by omega
      subst this; simp, rfl⟩

set_option maxRecDepth 100000 in
set_option maxHeartbeats 16000000 in
theorem awake12_any (w : World) : Calls Try.prog 10 #[] w fun e W' => e = .returned (.bool true) ∧ Below w.heap.size w W' := by
  go_enter Try.func10, Try.ntmps10
  go_wp2_with fail
  have B : Below w.heap.size w w := Below.refl _ _
  refine (leafL_any 0 w).mono ?_
  rintro e W1 ⟨v0, rfl, hv0, hb⟩
  replace B := B.trans (hb.mono B.size)
  clear hb
  have H0 := Lib.hid hv0
  clear hv0
  go_wp2_with fail
  refine (leafL_any 1 W1).mono ?_
  rintro e W2 ⟨v1, rfl, hv1, hb⟩
  replace H0 := Lib.hid (keeps_spots _ _ _ _ _ _ H0.out hb hb.size)
  replace B := B.trans (hb.mono B.size)
  clear hb
  have H1 := Lib.hid hv1
  clear hv1
  go_wp2_with fail
  refine (refJoinS_any v0 v1 [(true, 0, 1)] [(true, 1, 1)] W2 H0.out H1.out (by decide)).mono ?_
  rintro e W3 ⟨v2, rfl, h2, hb⟩
  replace H0 := Lib.hid (keeps_spots _ _ _ _ _ _ H0.out hb hb.size)
  replace H1 := Lib.hid (keeps_spots _ _ _ _ _ _ H1.out hb hb.size)
  replace B := B.trans (hb.mono B.size)
  clear hb
  have H2 := Lib.hid h2
  clear h2
  go_wp2_with fail
  clear H0
  clear H1
  refine (leafL_any 2 W3).mono ?_
  rintro e W4 ⟨v3, rfl, hv3, hb⟩
  replace H2 := Lib.hid (keeps_spots _ _ _ _ _ _ H2.out hb hb.size)
  replace B := B.trans (hb.mono B.size)
  clear hb
  have H3 := Lib.hid hv3
  clear hv3
  go_wp2_with fail
  refine (refJoinS_any v2 v3 (joinS [(true, 0, 1)] [(true, 1, 1)]) [(true, 2, 1)] W4 H2.out H3.out (by decide)).mono ?_
  rintro e W5 ⟨vl, rfl, hl, hb⟩
  replace H2 := Lib.hid (keeps_spots _ _ _ _ _ _ H2.out hb hb.size)
  replace H3 := Lib.hid (keeps_spots _ _ _ _ _ _ H3.out hb hb.size)
  replace B := B.trans (hb.mono B.size)
  clear hb
  replace hl : Spots W5.heap.size W5 (spo exG) [vl] := hl
  have HL := Lib.hid hl
  clear hl
  go_wp2_with fail
  clear H2
  clear H3
  refine (leafL_any 3 W5).mono ?_
  rintro e W6 ⟨v4, rfl, hv4, hb⟩
  replace HL := Lib.hid (keeps_spots _ _ _ _ _ _ HL.out hb hb.size)
  replace B := B.trans (hb.mono B.size)
  clear hb
  have H4 := Lib.hid hv4
  clear hv4
  go_wp2_with fail
  refine (gGraft_any vl v4 exG (some (.leaf 3 1)) W6 HL.out H4.out exG_ok (exL_ok 3 (by decide)) exG_ht (by decide) exX_ok).mono ?_
  rintro e W7 ⟨vx, rfl, hx, hb⟩
  replace HL := Lib.hid (keeps_spots _ _ _ _ _ _ HL.out hb hb.size)
  replace H4 := Lib.hid (keeps_spots _ _ _ _ _ _ H4.out hb hb.size)
  replace B := B.trans (hb.mono B.size)
  clear hb
  replace hx : Spots W7.heap.size W7 (spo exX) [vx] := hx
  have HX := Lib.hid hx
  clear hx
  go_wp2_with fail
  clear H4
  refine (leafL_any 4 W7).mono ?_
  rintro e W8 ⟨v5, rfl, hv5, hb⟩
  replace HL := Lib.hid (keeps_spots _ _ _ _ _ _ HL.out hb hb.size)
  replace HX := Lib.hid (keeps_spots _ _ _ _ _ _ HX.out hb hb.size)
  replace B := B.trans (hb.mono B.size)
  clear hb
  have H5 := Lib.hid hv5
  clear hv5
  go_wp2_with fail
  refine (gGraft_any vx v5 exX (some (.leaf 4 1)) W8 HX.out H5.out exX_ok (exL_ok 4 (by decide)) exX_ht (by decide) exY_ok).mono ?_
  rintro e W9 ⟨vy, rfl, hy, hb⟩
  replace HL := Lib.hid (keeps_spots _ _ _ _ _ _ HL.out hb hb.size)
  replace HX := Lib.hid (keeps_spots _ _ _ _ _ _ HX.out hb hb.size)
  replace H5 := Lib.hid (keeps_spots _ _ _ _ _ _ H5.out hb hb.size)
  replace B := B.trans (hb.mono B.size)
  clear hb
  replace hy : Spots W9.heap.size W9 (spo exY) [vy] := hy
  have HY := Lib.hid hy
  clear hy
  go_wp2_with fail
  clear H5
  refine (leafL_any 4 W9).mono ?_
  rintro e W10 ⟨v6, rfl, hv6, hb⟩
  replace HL := Lib.hid (keeps_spots _ _ _ _ _ _ HL.out hb hb.size)
  replace HX := Lib.hid (keeps_spots _ _ _ _ _ _ HX.out hb hb.size)
  replace HY := Lib.hid (keeps_spots _ _ _ _ _ _ HY.out hb hb.size)
  replace B := B.trans (hb.mono B.size)
  clear hb
  have H6 := Lib.hid hv6
  clear hv6
  go_wp2_with fail
  refine (leafL_any 3 W10).mono ?_
  rintro e W11 ⟨v7, rfl, hv7, hb⟩
  replace HL := Lib.hid (keeps_spots _ _ _ _ _ _ HL.out hb hb.size)
  replace HX := Lib.hid (keeps_spots _ _ _ _ _ _ HX.out hb hb.size)
  replace HY := Lib.hid (keeps_spots _ _ _ _ _ _ HY.out hb hb.size)
  replace H6 := Lib.hid (keeps_spots _ _ _ _ _ _ H6.out hb hb.size)
  replace B := B.trans (hb.mono B.size)
  clear hb
  have H7 := Lib.hid hv7
  clear hv7
  obtain ⟨A6, c6, rfl, -, -⟩ := spots_len H6.out 1 rfl
  obtain ⟨A7, c7, rfl, -, -⟩ := spots_len H7.out 1 rfl
  obtain ⟨AL, cL, rfl, -, -⟩ := spots_len HL.out 5 (by decide +kernel)
  go_wp2_with fail
  obtain ⟨W12, hW, hm, hb⟩ : ∃ W, W11.alloc (.cells #[.slice A6 1 c6, .slice AL 5 cL, .slice A7 1 c7] 24) = W ∧ Heads W.heap.size W [(A6, 1, c6), (AL, 5, cL), (A7, 1, c7)] [.slice (some ⟨W11.heap.size, 0, none⟩) 3 3] ∧ Below W11.heap.size W11 W := ⟨_, rfl, (by simpa using three_heads W11 (A6, 1, c6) (AL, 5, cL) (A7, 1, c7) 24 _ rfl), below_new _ _⟩
  rw [hW]
  obtain ⟨gm, hg⟩ : ∃ g, W11.heap.size = g := ⟨_, rfl⟩
  rw [hg] at hm
  try rw [hg]
  replace HL := Lib.hid (keeps_spots _ _ _ _ _ _ HL.out hb hb.size)
  replace HX := Lib.hid (keeps_spots _ _ _ _ _ _ HX.out hb hb.size)
  replace HY := Lib.hid (keeps_spots _ _ _ _ _ _ HY.out hb hb.size)
  replace H6 := Lib.hid (keeps_spots _ _ _ _ _ _ H6.out hb hb.size)
  replace H7 := Lib.hid (keeps_spots _ _ _ _ _ _ H7.out hb hb.size)
  replace B := B.trans (hb.mono B.size)
  clear hb
  clear hW hg
  have he : Each W12.heap.size W12 [(A6, 1, c6), (AL, 5, cL), (A7, 1, c7)] exM := (Each.one (h := (A6, 1, c6)) H6.out).append ((Each.one (h := (AL, 5, cL)) HL.out).append (Each.one (h := (A7, 1, c7)) H7.out))
  refine (gMerge_any _ _ exM W12 hm he (by decide) exM_ok exM_nd exM_len).mono ?_
  rintro e W13 ⟨vz, rfl, hz, hb⟩
  replace HL := Lib.hid (keeps_spots _ _ _ _ _ _ HL.out hb hb.size)
  replace HX := Lib.hid (keeps_spots _ _ _ _ _ _ HX.out hb hb.size)
  replace HY := Lib.hid (keeps_spots _ _ _ _ _ _ HY.out hb hb.size)
  replace H6 := Lib.hid (keeps_spots _ _ _ _ _ _ H6.out hb hb.size)
  replace H7 := Lib.hid (keeps_spots _ _ _ _ _ _ H7.out hb hb.size)
  replace B := B.trans (hb.mono B.size)
  clear hb
  rw [exM_z] at hz
  have HZ := Lib.hid hz
  clear hz
  go_wp2_with fail
  clear hm he
  clear H6
  clear H7
  refine ((show Calls _ _ _ _ (fun e W' => e = .returned (vM 1 1) ∧ Below W13.heap.size W13 W') from by have := gPlace_any _ exG 0 W13 HL.out exG_ok exG_ht (by decide) (by decide); rwa [exG_place] at this)).mono ?_
  rintro e W14 ⟨rfl, hb⟩
  replace HL := Lib.hid (keeps_spots _ _ _ _ _ _ HL.out hb hb.size)
  replace HX := Lib.hid (keeps_spots _ _ _ _ _ _ HX.out hb hb.size)
  replace HY := Lib.hid (keeps_spots _ _ _ _ _ _ HY.out hb hb.size)
  replace HZ := Lib.hid (keeps_spots _ _ _ _ _ _ HZ.out hb hb.size)
  replace B := B.trans (hb.mono B.size)
  clear hb
  go_wp2_with fail
  refine ((show Calls _ _ _ _ (fun e W' => e = .returned (vM 0 0) ∧ Below W14.heap.size W14 W') from by have := gPlace_any _ exX 0 W14 HX.out exX_ok exX_ht (by decide) (by decide); rwa [exX_place] at this)).mono ?_
  rintro e W15 ⟨rfl, hb⟩
  replace HL := Lib.hid (keeps_spots _ _ _ _ _ _ HL.out hb hb.size)
  replace HX := Lib.hid (keeps_spots _ _ _ _ _ _ HX.out hb hb.size)
  replace HY := Lib.hid (keeps_spots _ _ _ _ _ _ HY.out hb hb.size)
  replace HZ := Lib.hid (keeps_spots _ _ _ _ _ _ HZ.out hb hb.size)
  replace B := B.trans (hb.mono B.size)
  clear hb
  go_wp2_with fail
  refine (leafL_any 0 W15).mono ?_
  rintro e W16 ⟨u0, rfl, hu0, hb⟩
  replace HL := Lib.hid (keeps_spots _ _ _ _ _ _ HL.out hb hb.size)
  replace HX := Lib.hid (keeps_spots _ _ _ _ _ _ HX.out hb hb.size)
  replace HY := Lib.hid (keeps_spots _ _ _ _ _ _ HY.out hb hb.size)
  replace HZ := Lib.hid (keeps_spots _ _ _ _ _ _ HZ.out hb hb.size)
  replace B := B.trans (hb.mono B.size)
  clear hb
  have G0 := Lib.hid hu0
  clear hu0
  go_wp2_with fail
  refine (leafL_any 1 W16).mono ?_
  rintro e W17 ⟨u1, rfl, hu1, hb⟩
  replace HL := Lib.hid (keeps_spots _ _ _ _ _ _ HL.out hb hb.size)
  replace HX := Lib.hid (keeps_spots _ _ _ _ _ _ HX.out hb hb.size)
  replace HY := Lib.hid (keeps_spots _ _ _ _ _ _ HY.out hb hb.size)
  replace HZ := Lib.hid (keeps_spots _ _ _ _ _ _ HZ.out hb hb.size)
  replace G0 := Lib.hid (keeps_spots _ _ _ _ _ _ G0.out hb hb.size)
  replace B := B.trans (hb.mono B.size)
  clear hb
  have G1 := Lib.hid hu1
  clear hu1
  go_wp2_with fail
  refine (refJoinS_any u0 u1 [(true, 0, 1)] [(true, 1, 1)] W17 G0.out G1.out (by decide)).mono ?_
  rintro e W18 ⟨u2, rfl, g2, hb⟩
  replace HL := Lib.hid (keeps_spots _ _ _ _ _ _ HL.out hb hb.size)
  replace HX := Lib.hid (keeps_spots _ _ _ _ _ _ HX.out hb hb.size)
  replace HY := Lib.hid (keeps_spots _ _ _ _ _ _ HY.out hb hb.size)
  replace HZ := Lib.hid (keeps_spots _ _ _ _ _ _ HZ.out hb hb.size)
  replace G0 := Lib.hid (keeps_spots _ _ _ _ _ _ G0.out hb hb.size)
  replace G1 := Lib.hid (keeps_spots _ _ _ _ _ _ G1.out hb hb.size)
  replace B := B.trans (hb.mono B.size)
  clear hb
  have G2 := Lib.hid g2
  clear g2
  go_wp2_with fail
  clear G0
  clear G1
  refine (leafL_any 2 W18).mono ?_
  rintro e W19 ⟨u3, rfl, hu3, hb⟩
  replace HL := Lib.hid (keeps_spots _ _ _ _ _ _ HL.out hb hb.size)
  replace HX := Lib.hid (keeps_spots _ _ _ _ _ _ HX.out hb hb.size)
  replace HY := Lib.hid (keeps_spots _ _ _ _ _ _ HY.out hb hb.size)
  replace HZ := Lib.hid (keeps_spots _ _ _ _ _ _ HZ.out hb hb.size)
  replace G2 := Lib.hid (keeps_spots _ _ _ _ _ _ G2.out hb hb.size)
  replace B := B.trans (hb.mono B.size)
  clear hb
  have G3 := Lib.hid hu3
  clear hu3
  go_wp2_with fail
  refine (leafL_any 3 W19).mono ?_
  rintro e W20 ⟨u4, rfl, hu4, hb⟩
  replace HL := Lib.hid (keeps_spots _ _ _ _ _ _ HL.out hb hb.size)
  replace HX := Lib.hid (keeps_spots _ _ _ _ _ _ HX.out hb hb.size)
  replace HY := Lib.hid (keeps_spots _ _ _ _ _ _ HY.out hb hb.size)
  replace HZ := Lib.hid (keeps_spots _ _ _ _ _ _ HZ.out hb hb.size)
  replace G2 := Lib.hid (keeps_spots _ _ _ _ _ _ G2.out hb hb.size)
  replace G3 := Lib.hid (keeps_spots _ _ _ _ _ _ G3.out hb hb.size)
  replace B := B.trans (hb.mono B.size)
  clear hb
  have G4 := Lib.hid hu4
  clear hu4
  go_wp2_with fail
  refine (refJoinS_any u3 u4 [(true, 2, 1)] [(true, 3, 1)] W20 G3.out G4.out (by decide)).mono ?_
  rintro e W21 ⟨u5, rfl, g5, hb⟩
  replace HL := Lib.hid (keeps_spots _ _ _ _ _ _ HL.out hb hb.size)
  replace HX := Lib.hid (keeps_spots _ _ _ _ _ _ HX.out hb hb.size)
  replace HY := Lib.hid (keeps_spots _ _ _ _ _ _ HY.out hb hb.size)
  replace HZ := Lib.hid (keeps_spots _ _ _ _ _ _ HZ.out hb hb.size)
  replace G2 := Lib.hid (keeps_spots _ _ _ _ _ _ G2.out hb hb.size)
  replace G3 := Lib.hid (keeps_spots _ _ _ _ _ _ G3.out hb hb.size)
  replace G4 := Lib.hid (keeps_spots _ _ _ _ _ _ G4.out hb hb.size)
  replace B := B.trans (hb.mono B.size)
  clear hb
  have G5 := Lib.hid g5
  clear g5
  go_wp2_with fail
  clear G3
  clear G4
  refine (refJoinS_any u2 u5 (joinS [(true, 0, 1)] [(true, 1, 1)]) (joinS [(true, 2, 1)] [(true, 3, 1)]) W21 G2.out G5.out (by decide)).mono ?_
  rintro e W22 ⟨u6, rfl, g6, hb⟩
  replace HL := Lib.hid (keeps_spots _ _ _ _ _ _ HL.out hb hb.size)
  replace HX := Lib.hid (keeps_spots _ _ _ _ _ _ HX.out hb hb.size)
  replace HY := Lib.hid (keeps_spots _ _ _ _ _ _ HY.out hb hb.size)
  replace HZ := Lib.hid (keeps_spots _ _ _ _ _ _ HZ.out hb hb.size)
  replace G2 := Lib.hid (keeps_spots _ _ _ _ _ _ G2.out hb hb.size)
  replace G5 := Lib.hid (keeps_spots _ _ _ _ _ _ G5.out hb hb.size)
  replace B := B.trans (hb.mono B.size)
  clear hb
  rw [exX_is] at g6
  have G6 := Lib.hid g6
  clear g6
  go_wp2_with fail
  clear G2
  clear G5
  refine ((show Calls _ _ _ _ (fun e W' => e = .returned (.bool true) ∧ Below W22.heap.size W22 W') from by have := sameS_any vx u6 (spo exX) (spo exX) W22 HX.out G6.out (Nat.le_trans exX_len (by decide)); rwa [show decide ((spo exX) = (spo exX)) = true from decide_eq_true rfl] at this)).mono ?_
  rintro e W23 ⟨rfl, hb⟩
  replace HL := Lib.hid (keeps_spots _ _ _ _ _ _ HL.out hb hb.size)
  replace HX := Lib.hid (keeps_spots _ _ _ _ _ _ HX.out hb hb.size)
  replace HY := Lib.hid (keeps_spots _ _ _ _ _ _ HY.out hb hb.size)
  replace HZ := Lib.hid (keeps_spots _ _ _ _ _ _ HZ.out hb hb.size)
  replace G6 := Lib.hid (keeps_spots _ _ _ _ _ _ G6.out hb hb.size)
  replace B := B.trans (hb.mono B.size)
  clear hb
  go_wp2_with fail
  clear G6
  refine (leafL_any 4 W23).mono ?_
  rintro e W24 ⟨u7, rfl, hu7, hb⟩
  replace HL := Lib.hid (keeps_spots _ _ _ _ _ _ HL.out hb hb.size)
  replace HX := Lib.hid (keeps_spots _ _ _ _ _ _ HX.out hb hb.size)
  replace HY := Lib.hid (keeps_spots _ _ _ _ _ _ HY.out hb hb.size)
  replace HZ := Lib.hid (keeps_spots _ _ _ _ _ _ HZ.out hb hb.size)
  replace B := B.trans (hb.mono B.size)
  clear hb
  have G7 := Lib.hid hu7
  clear hu7
  go_wp2_with fail
  refine (refJoinS_any vx u7 (spo exX) [(true, 4, 1)] W24 HX.out G7.out (Nat.le_trans (Nat.add_le_add exX_len (Nat.le_refl _)) (by decide))).mono ?_
  rintro e W25 ⟨u8, rfl, g8, hb⟩
  replace HL := Lib.hid (keeps_spots _ _ _ _ _ _ HL.out hb hb.size)
  replace HX := Lib.hid (keeps_spots _ _ _ _ _ _ HX.out hb hb.size)
  replace HY := Lib.hid (keeps_spots _ _ _ _ _ _ HY.out hb hb.size)
  replace HZ := Lib.hid (keeps_spots _ _ _ _ _ _ HZ.out hb hb.size)
  replace G7 := Lib.hid (keeps_spots _ _ _ _ _ _ G7.out hb hb.size)
  replace B := B.trans (hb.mono B.size)
  clear hb
  rw [exY_is] at g8
  have G8 := Lib.hid g8
  clear g8
  go_wp2_with fail
  clear G7
  refine ((show Calls _ _ _ _ (fun e W' => e = .returned (.bool true) ∧ Below W25.heap.size W25 W') from by have := sameS_any vy u8 (spo exY) (spo exY) W25 HY.out G8.out (Nat.le_trans exY_len (by decide)); rwa [show decide ((spo exY) = (spo exY)) = true from decide_eq_true rfl] at this)).mono ?_
  rintro e W26 ⟨rfl, hb⟩
  replace HL := Lib.hid (keeps_spots _ _ _ _ _ _ HL.out hb hb.size)
  replace HX := Lib.hid (keeps_spots _ _ _ _ _ _ HX.out hb hb.size)
  replace HY := Lib.hid (keeps_spots _ _ _ _ _ _ HY.out hb hb.size)
  replace HZ := Lib.hid (keeps_spots _ _ _ _ _ _ HZ.out hb hb.size)
  replace G8 := Lib.hid (keeps_spots _ _ _ _ _ _ G8.out hb hb.size)
  replace B := B.trans (hb.mono B.size)
  clear hb
  go_wp2_with fail
  clear G8
  refine ((show Calls _ _ _ _ (fun e W' => e = .returned (.bool true) ∧ Below W26.heap.size W26 W') from by have := sameS_any vz vy (spo exY) (spo exY) W26 HZ.out HY.out (Nat.le_trans exY_len (by decide)); rwa [show decide ((spo exY) = (spo exY)) = true from decide_eq_true rfl] at this)).mono ?_
  rintro e W27 ⟨rfl, hb⟩
  replace HL := Lib.hid (keeps_spots _ _ _ _ _ _ HL.out hb hb.size)
  replace HX := Lib.hid (keeps_spots _ _ _ _ _ _ HX.out hb hb.size)
  replace HY := Lib.hid (keeps_spots _ _ _ _ _ _ HY.out hb hb.size)
  replace HZ := Lib.hid (keeps_spots _ _ _ _ _ _ HZ.out hb hb.size)
  replace B := B.trans (hb.mono B.size)
  clear hb
  go_wp2_with fail
  refine (leafL_any 5 W27).mono ?_
  rintro e W28 ⟨u9, rfl, hu9, hb⟩
  replace HL := Lib.hid (keeps_spots _ _ _ _ _ _ HL.out hb hb.size)
  replace HX := Lib.hid (keeps_spots _ _ _ _ _ _ HX.out hb hb.size)
  replace HY := Lib.hid (keeps_spots _ _ _ _ _ _ HY.out hb hb.size)
  replace HZ := Lib.hid (keeps_spots _ _ _ _ _ _ HZ.out hb hb.size)
  replace B := B.trans (hb.mono B.size)
  clear hb
  have G9 := Lib.hid hu9
  clear hu9
  go_wp2_with fail
  refine (gPut_any _ u9 exG (some (.leaf 5 1)) 3 0 W28 HL.out G9.out exG_ok (exL_ok 5 (by decide)) exG_ht (by decide)).mono ?_
  rintro e W29 ⟨ua, rfl, ga, hb⟩
  replace HL := Lib.hid (keeps_spots _ _ _ _ _ _ HL.out hb hb.size)
  replace HX := Lib.hid (keeps_spots _ _ _ _ _ _ HX.out hb hb.size)
  replace HY := Lib.hid (keeps_spots _ _ _ _ _ _ HY.out hb hb.size)
  replace HZ := Lib.hid (keeps_spots _ _ _ _ _ _ HZ.out hb hb.size)
  replace G9 := Lib.hid (keeps_spots _ _ _ _ _ _ G9.out hb hb.size)
  replace B := B.trans (hb.mono B.size)
  clear hb
  rw [exG_put] at ga
  have GA := Lib.hid ga
  clear ga
  go_wp2_with fail
  clear G9
  refine ((show Calls _ _ _ _ (fun e W' => e = .returned (.bool true) ∧ Below W29.heap.size W29 W') from by have := sameS_any ua _ (spo exG) (spo exG) W29 GA.out HL.out (Nat.le_trans exG_len (by decide)); rwa [show decide ((spo exG) = (spo exG)) = true from decide_eq_true rfl] at this)).mono ?_
  rintro e W30 ⟨rfl, hb⟩
  replace HL := Lib.hid (keeps_spots _ _ _ _ _ _ HL.out hb hb.size)
  replace HX := Lib.hid (keeps_spots _ _ _ _ _ _ HX.out hb hb.size)
  replace HY := Lib.hid (keeps_spots _ _ _ _ _ _ HY.out hb hb.size)
  replace HZ := Lib.hid (keeps_spots _ _ _ _ _ _ HZ.out hb hb.size)
  replace GA := Lib.hid (keeps_spots _ _ _ _ _ _ GA.out hb hb.size)
  replace B := B.trans (hb.mono B.size)
  clear hb
  go_wp2_with fail
  refine (gMerge_any _ [] [] W30 (own_heads (World.ownsRow_nil _ (W30).heap.size _ _)) (Each.nil _ _) (by decide) (by simp) (by simp [allO]) (by simp [allO])).mono ?_
  rintro e W31 ⟨vn, rfl, hn, hb⟩
  replace HL := Lib.hid (keeps_spots _ _ _ _ _ _ HL.out hb hb.size)
  replace HX := Lib.hid (keeps_spots _ _ _ _ _ _ HX.out hb hb.size)
  replace HY := Lib.hid (keeps_spots _ _ _ _ _ _ HY.out hb hb.size)
  replace HZ := Lib.hid (keeps_spots _ _ _ _ _ _ HZ.out hb hb.size)
  replace GA := Lib.hid (keeps_spots _ _ _ _ _ _ GA.out hb hb.size)
  replace B := B.trans (hb.mono B.size)
  clear hb
  obtain ⟨An, cn, rfl, _, _⟩ := spots_len hn 0 exN_len
  clear hn
  go_wp2
  go_ret
  exact ⟨rfl, B⟩

end Go.Proofs.Ytokhaldnakjiaaa
