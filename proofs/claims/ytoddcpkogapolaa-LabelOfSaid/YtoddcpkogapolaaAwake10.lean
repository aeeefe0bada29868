/- The document's examples of layer 10 hold (lodgelaw10.awake answers true), and memory below is left as it was. No condition. -/
import Derived.Test.YtoddcpkogapolaaLabC
import Derived.Test.YtoddcpkogapolaaRefJ
import Derived.Test.YtoddcpkogapolaaLens
namespace Go.Proofs.Ytoddcpkogapolaa
open Go Go.RowKit
set_option linter.unusedVariables false

def exO : Option Tr := some (.inner 0 0 (.inner 0 0 (.leaf 0 1) (.leaf 1 1)) (.leaf 2 1))
theorem exO_ok : okT (spo exO) = true := by decide +kernel
theorem exO_ht : htO exO ≤ 60 := by decide +kernel
theorem exO_of : ofO exO (1, 1) = ((2, 1), true) := by decide +kernel
theorem exO_no : ofO exO (3, 1) = ((0, 0), false) := by decide +kernel
theorem exO_up : upL 2 1 = ((1, 0), true) := by decide +kernel
theorem exO_top : upL 0 0 = ((0, 0), false) := by decide +kernel
theorem exO_bes : besL 2 1 = ((2, 0), true) := by decide +kernel
theorem exO_at : atO exO 2 1 = 3 := by decide +kernel
theorem exO_at2 : atO exO 2 2 = -1 := by decide +kernel
theorem exO_part : (partO exO 1 0).length = 3 := by decide +kernel
theorem exO_way : (wayO exO (1, 1)).length = 3 := by decide +kernel
theorem exO_right : okL 2 1 = true := by decide +kernel
theorem exO_wrong : okL 0 1 = false := by decide +kernel

set_option maxRecDepth 100000 in
set_option maxHeartbeats 16000000 in
theorem awake10_any (w : World) : Calls Try.prog 14 #[] w fun e W' => e = .returned (.bool true) ∧ Below w.heap.size w W' := by
  go_enter Try.func14, Try.ntmps14
  go_wp2_with fail
  have B : Below w.heap.size w w := Below.refl _ _
  refine (law10Leaf_any 0 w).mono ?_
  rintro e W1 ⟨v0, rfl, h0, hb⟩
  replace B := B.trans (hb.mono B.size)
  clear hb
  have H0 := Lib.hid h0
  clear h0
  go_wp2_with fail
  refine (law10Leaf_any 1 W1).mono ?_
  rintro e W2 ⟨v1, rfl, h1, hb⟩
  replace H0 := Lib.hid (keeps_spots _ _ _ _ _ _ H0.out hb hb.size)
  replace B := B.trans (hb.mono B.size)
  clear hb
  have H1 := Lib.hid h1
  clear h1
  go_wp2_with fail
  refine (refJoin_both v0 v1 [(true, 0, 1)] [(true, 1, 1)] W2 H0.out H1.out (by decide) (by decide) (by decide)).mono ?_
  rintro e W3 ⟨v2, rfl, h2, hb⟩
  replace H0 := Lib.hid (keeps_spots _ _ _ _ _ _ H0.out hb hb.size)
  replace H1 := Lib.hid (keeps_spots _ _ _ _ _ _ H1.out hb hb.size)
  replace B := B.trans (hb.mono B.size)
  clear hb
  have H2 := Lib.hid h2
  clear h2
  go_wp2_with fail
  clear H0 H1
  refine (law10Leaf_any 2 W3).mono ?_
  rintro e W4 ⟨v3, rfl, h3, hb⟩
  replace H2 := Lib.hid (keeps_spots _ _ _ _ _ _ H2.out hb hb.size)
  replace B := B.trans (hb.mono B.size)
  clear hb
  have H3 := Lib.hid h3
  clear h3
  go_wp2_with fail
  refine (refJoin_both v2 v3 [(false, 0, 0), (true, 0, 1), (true, 1, 1)] [(true, 2, 1)] W4 H2.out H3.out (by decide) (by decide) (by decide)).mono ?_
  rintro e W5 ⟨vl, rfl, hl, hb⟩
  replace H2 := Lib.hid (keeps_spots _ _ _ _ _ _ H2.out hb hb.size)
  replace H3 := Lib.hid (keeps_spots _ _ _ _ _ _ H3.out hb hb.size)
  replace B := B.trans (hb.mono B.size)
  clear hb
  replace hl : Spots W5.heap.size W5 (spo exO) [vl] := hl
  have HL := Lib.hid hl
  clear hl
  go_wp2_with fail
  clear H2 H3
  refine (lOf_any vl exO 1 1 W5 HL.out exO_ok exO_ht).mono ?_
  rintro e W6 ⟨rfl, hb⟩
  replace HL := Lib.hid (keeps_spots _ _ _ _ _ _ HL.out hb hb.size)
  replace B := B.trans (hb.mono B.size)
  clear hb
  rw [exO_of]
  go_wp2_with fail
  obtain ⟨W7, hW, b2, hb⟩ : ∃ W, W6.alloc (.cells #[.int .i64 2, .int .i64 1] 24) = W ∧ Box W W6.heap.size [.int .i64 2, .int .i64 1] ∧ Below W6.heap.size W6 W := ⟨_, rfl, Box.new W6 _ _, below_new _ _⟩
  rw [hW]
  obtain ⟨gb2, hg⟩ : ∃ g, W6.heap.size = g := ⟨_, rfl⟩
  rw [hg] at b2
  try rw [hg]
  replace HL := Lib.hid (keeps_spots _ _ _ _ _ _ HL.out hb hb.size)
  replace B := B.trans (hb.mono B.size)
  clear hb
  clear hW hg
  refine (lOf_any vl exO 3 1 W7 HL.out exO_ok exO_ht).mono ?_
  rintro e W8 ⟨rfl, hb⟩
  replace HL := Lib.hid (keeps_spots _ _ _ _ _ _ HL.out hb hb.size)
  replace b2 := b2.next hb
  replace B := B.trans (hb.mono B.size)
  clear hb
  rw [exO_no]
  have q0 := fun o => (b2.next (below_new W8 o)).c 0 _ rfl
  have q1 := fun o => (b2.next (below_new W8 o)).c 1 _ rfl
  go_wp2_with fail
  obtain ⟨W9, hW, b4, hb⟩ : ∃ W, W8.alloc (.cells #[.int .i64 0, .int .i64 0] 24) = W ∧ Box W W8.heap.size [.int .i64 0, .int .i64 0] ∧ Below W8.heap.size W8 W := ⟨_, rfl, Box.new W8 _ _, below_new _ _⟩
  rw [hW]
  obtain ⟨gb4, hg⟩ : ∃ g, W8.heap.size = g := ⟨_, rfl⟩
  rw [hg] at b4
  try rw [hg]
  replace HL := Lib.hid (keeps_spots _ _ _ _ _ _ HL.out hb hb.size)
  replace b2 := b2.next hb
  replace B := B.trans (hb.mono B.size)
  clear hb
  clear hW hg
  clear q0 q1
  refine (show Calls _ _ _ _ (fun e W' => e = .returned (.tuple #[vM 1 0, .bool true]) ∧ Below W9.heap.size W9 W') from by have := lUp_any 2 1 W9; rwa [exO_up] at this).mono ?_
  rintro e W10 ⟨rfl, hb⟩
  replace HL := Lib.hid (keeps_spots _ _ _ _ _ _ HL.out hb hb.size)
  replace b2 := b2.next hb
  replace b4 := b4.next hb
  replace B := B.trans (hb.mono B.size)
  clear hb
  go_wp2_with fail
  obtain ⟨W11, hW, b6, hb⟩ : ∃ W, W10.alloc (.cells #[.int .i64 1, .int .i64 0] 24) = W ∧ Box W W10.heap.size [.int .i64 1, .int .i64 0] ∧ Below W10.heap.size W10 W := ⟨_, rfl, Box.new W10 _ _, below_new _ _⟩
  rw [hW]
  obtain ⟨gb6, hg⟩ : ∃ g, W10.heap.size = g := ⟨_, rfl⟩
  rw [hg] at b6
  try rw [hg]
  replace HL := Lib.hid (keeps_spots _ _ _ _ _ _ HL.out hb hb.size)
  replace b2 := b2.next hb
  replace b4 := b4.next hb
  replace B := B.trans (hb.mono B.size)
  clear hb
  clear hW hg
  refine (show Calls _ _ _ _ (fun e W' => e = .returned (.tuple #[vM 0 0, .bool false]) ∧ Below W11.heap.size W11 W') from by have := lUp_any 0 0 W11; rwa [exO_top] at this).mono ?_
  rintro e W12 ⟨rfl, hb⟩
  replace HL := Lib.hid (keeps_spots _ _ _ _ _ _ HL.out hb hb.size)
  replace b2 := b2.next hb
  replace b4 := b4.next hb
  replace b6 := b6.next hb
  replace B := B.trans (hb.mono B.size)
  clear hb
  have q0 := fun o => (b2.next (below_new W12 o)).c 0 _ rfl
  have q1 := fun o => (b2.next (below_new W12 o)).c 1 _ rfl
  go_wp2_with fail
  obtain ⟨W13, hW, b8, hb⟩ : ∃ W, W12.alloc (.cells #[.int .i64 0, .int .i64 0] 24) = W ∧ Box W W12.heap.size [.int .i64 0, .int .i64 0] ∧ Below W12.heap.size W12 W := ⟨_, rfl, Box.new W12 _ _, below_new _ _⟩
  rw [hW]
  obtain ⟨gb8, hg⟩ : ∃ g, W12.heap.size = g := ⟨_, rfl⟩
  rw [hg] at b8
  try rw [hg]
  replace HL := Lib.hid (keeps_spots _ _ _ _ _ _ HL.out hb hb.size)
  replace b2 := b2.next hb
  replace b4 := b4.next hb
  replace b6 := b6.next hb
  replace B := B.trans (hb.mono B.size)
  clear hb
  clear hW hg
  clear q0 q1
  refine (show Calls _ _ _ _ (fun e W' => e = .returned (.tuple #[vM 2 0, .bool true]) ∧ Below W13.heap.size W13 W') from by have := lBeside_any 2 1 W13; rwa [exO_bes] at this).mono ?_
  rintro e W14 ⟨rfl, hb⟩
  replace HL := Lib.hid (keeps_spots _ _ _ _ _ _ HL.out hb hb.size)
  replace b2 := b2.next hb
  replace b4 := b4.next hb
  replace b6 := b6.next hb
  replace b8 := b8.next hb
  replace B := B.trans (hb.mono B.size)
  clear hb
  have q20 := fun o => (b2.next (below_new W14 o)).c 0 _ rfl
  have q21 := fun o => (b2.next (below_new W14 o)).c 1 _ rfl
  have q60 := fun o => (b6.next (below_new W14 o)).c 0 _ rfl
  have q61 := fun o => (b6.next (below_new W14 o)).c 1 _ rfl
  have q100 : ((W14.alloc (.cells #[.int .i64 2, .int .i64 0] 24)).cell? ⟨W14.heap.size, 0, none⟩ = some (.int .i64 2)) := by simp
  go_wp2_with fail
  obtain ⟨W15, hW, b10, hb⟩ : ∃ W, W14.alloc (.cells #[.int .i64 2, .int .i64 0] 24) = W ∧ Box W W14.heap.size [.int .i64 2, .int .i64 0] ∧ Below W14.heap.size W14 W := ⟨_, rfl, Box.new W14 _ _, below_new _ _⟩
  rw [hW]
  obtain ⟨gb10, hg⟩ : ∃ g, W14.heap.size = g := ⟨_, rfl⟩
  rw [hg] at b10
  try rw [hg]
  replace HL := Lib.hid (keeps_spots _ _ _ _ _ _ HL.out hb hb.size)
  replace b2 := b2.next hb
  replace b4 := b4.next hb
  replace b6 := b6.next hb
  replace b8 := b8.next hb
  replace B := B.trans (hb.mono B.size)
  clear hb
  clear hW hg
  clear q20 q21 q60 q61 q100
  refine (show Calls _ _ _ _ (fun e W' => e = .returned (.int .i64 3) ∧ Below W15.heap.size W15 W') from by have := lAt_any vl exO 2 1 W15 HL.out exO_ok exO_ht; rwa [exO_at] at this).mono ?_
  rintro e W16 ⟨rfl, hb⟩
  replace HL := Lib.hid (keeps_spots _ _ _ _ _ _ HL.out hb hb.size)
  replace b2 := b2.next hb
  replace b4 := b4.next hb
  replace b6 := b6.next hb
  replace b8 := b8.next hb
  replace b10 := b10.next hb
  replace B := B.trans (hb.mono B.size)
  clear hb
  go_wp2_with fail
  refine (show Calls _ _ _ _ (fun e W' => e = .returned (.int .i64 (-1)) ∧ Below W16.heap.size W16 W') from by have := lAt_any vl exO 2 2 W16 HL.out exO_ok exO_ht; rwa [exO_at2] at this).mono ?_
  rintro e W17 ⟨rfl, hb⟩
  replace HL := Lib.hid (keeps_spots _ _ _ _ _ _ HL.out hb hb.size)
  replace b2 := b2.next hb
  replace b4 := b4.next hb
  replace b6 := b6.next hb
  replace b8 := b8.next hb
  replace b10 := b10.next hb
  replace B := B.trans (hb.mono B.size)
  clear hb
  have q0 := b6.c 0 _ rfl
  have q1 := b6.c 1 _ rfl
  go_wp2_with fail
  refine (lPart_any vl exO 1 0 W17 HL.out exO_ok exO_ht).mono ?_
  rintro e W18 ⟨vp, rfl, hp, hb⟩
  replace HL := Lib.hid (keeps_spots _ _ _ _ _ _ HL.out hb hb.size)
  replace b2 := b2.next hb
  replace b4 := b4.next hb
  replace b6 := b6.next hb
  replace b8 := b8.next hb
  replace b10 := b10.next hb
  replace B := B.trans (hb.mono B.size)
  clear hb
  obtain ⟨Ap, cp, rfl, _, _⟩ := spots_len hp 3 exO_part
  clear hp
  go_wp2_with fail
  clear q0 q1
  refine (lWay_any vl exO 1 1 W18 HL.out exO_ok exO_ht).mono ?_
  rintro e W19 ⟨vw, rfl, hp, hb⟩
  replace HL := Lib.hid (keeps_spots _ _ _ _ _ _ HL.out hb hb.size)
  replace b2 := b2.next hb
  replace b4 := b4.next hb
  replace b6 := b6.next hb
  replace b8 := b8.next hb
  replace b10 := b10.next hb
  replace B := B.trans (hb.mono B.size)
  clear hb
  obtain ⟨Aw, cw, rfl, _, _⟩ := mems_len hp 3 exO_way
  clear hp
  have q0 := b2.c 0 _ rfl
  have q1 := b2.c 1 _ rfl
  go_wp2_with fail
  refine (show Calls _ _ _ _ (fun e W' => e = .returned (.bool true) ∧ Below W19.heap.size W19 W') from by have := lRight_any 2 1 W19; rwa [exO_right] at this).mono ?_
  rintro e W20 ⟨rfl, hb⟩
  replace HL := Lib.hid (keeps_spots _ _ _ _ _ _ HL.out hb hb.size)
  replace b2 := b2.next hb
  replace b4 := b4.next hb
  replace b6 := b6.next hb
  replace b8 := b8.next hb
  replace b10 := b10.next hb
  replace B := B.trans (hb.mono B.size)
  clear hb
  go_wp2_with fail
  refine (show Calls _ _ _ _ (fun e W' => e = .returned (.bool false) ∧ Below W20.heap.size W20 W') from by have := lRight_any 0 1 W20; rwa [exO_wrong] at this).mono ?_
  rintro e W21 ⟨rfl, hb⟩
  replace HL := Lib.hid (keeps_spots _ _ _ _ _ _ HL.out hb hb.size)
  replace b2 := b2.next hb
  replace b4 := b4.next hb
  replace b6 := b6.next hb
  replace b8 := b8.next hb
  replace b10 := b10.next hb
  replace B := B.trans (hb.mono B.size)
  clear hb
  go_wp2
  go_ret
  exact ⟨rfl, B⟩

end Go.Proofs.Ytoddcpkogapolaa
