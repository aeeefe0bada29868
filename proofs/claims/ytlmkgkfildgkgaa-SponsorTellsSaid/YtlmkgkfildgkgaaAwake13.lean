import Derived.Test.YtlmkgkfildgkgaaSpoC
import Derived.Test.YtlmkgkfildgkgaaRefJ
import Derived.Test.YtlmkgkfildgkgaaJoinS
import Derived.Test.YtlmkgkfildgkgaaLens
/- The document's examples of layer 13 hold (lodgelaw13.awake answers true), and memory below is left as it was. No condition. -/
namespace Go.Proofs.Ytlmkgkfildgkgaa
open Go Go.RowKit
set_option linter.unusedVariables false

def exS : Option Tr := some (.inner 0 0 (.inner 0 0 (.leaf 0 1) (.leaf 1 1)) (.leaf 2 1))
theorem exS_ok : okT (spo exS) = true := by decide +kernel
theorem exS_ht : htO exS ≤ 60 := by decide +kernel
theorem exS_root : whoO exS 0 0 = ((2, 1), true) := by decide +kernel
theorem exS_in : whoO exS 1 0 = ((1, 1), true) := by decide +kernel
theorem exS_no : whoO exS 3 0 = ((0, 0), false) := by decide +kernel
theorem exS_one : (speaksO exS (1, 1)).length = 2 := by decide +kernel
theorem exS_two : (speaksO exS (0, 1)).length = 1 := by decide +kernel
theorem exS_leaf : (speaksO (some (.leaf 0 1)) (0, 1)).length = 0 := by decide +kernel

set_option maxRecDepth 100000 in
set_option maxHeartbeats 16000000 in
theorem awake13_any (w : World) : Calls Try.prog 7 #[] w fun e W' => e = .returned (.bool true) ∧ Below w.heap.size w W' := by
  go_enter Try.func7, Try.ntmps7
  go_wp2_with fail
  have B : Below w.heap.size w w := Below.refl _ _
  refine (leafL_any 0 w).mono ?_
  rintro e W1 ⟨v0, rfl, h0, hb⟩
  replace B := B.trans (hb.mono B.size)
  clear hb
  have H0 := Lib.hid h0
  clear h0
  go_wp2_with fail
  refine (leafL_any 1 W1).mono ?_
  rintro e W2 ⟨v1, rfl, h1, hb⟩
  replace H0 := Lib.hid (keeps_spots _ _ _ _ _ _ H0.out hb hb.size)
  replace B := B.trans (hb.mono B.size)
  clear hb
  have H1 := Lib.hid h1
  clear h1
  go_wp2_with fail
  refine (refJoin_both v0 v1 [(true, 0, 1)] [(true, 1, 1)] W2 H0.out H1.out (by decide) (by decide) (by decide)).mono ?_
  rintro e W3 ⟨v2, rfl, h2, hb⟩
  replace H0 := Lib.hid (keeps_spots _ _ _ _ _ _ H0.out hb hb.size)
  replace H1 := Lib.hid (keeps_spots _ _ _ _ _ _ H1.out hb hb.size)
  replace B := B.trans (hb.mono B.size)
  clear hb
  have H2 := Lib.hid h2
  clear h2
  go_wp2_with fail
  clear H0 H1
  refine (leafL_any 2 W3).mono ?_
  rintro e W4 ⟨v3, rfl, h3, hb⟩
  replace H2 := Lib.hid (keeps_spots _ _ _ _ _ _ H2.out hb hb.size)
  replace B := B.trans (hb.mono B.size)
  clear hb
  have H3 := Lib.hid h3
  clear h3
  go_wp2_with fail
  refine (refJoin_both v2 v3 [(false, 0, 0), (true, 0, 1), (true, 1, 1)] [(true, 2, 1)] W4 H2.out H3.out (by decide) (by decide) (by decide)).mono ?_
  rintro e W5 ⟨vl, rfl, hl, hb⟩
  replace H2 := Lib.hid (keeps_spots _ _ _ _ _ _ H2.out hb hb.size)
  replace H3 := Lib.hid (keeps_spots _ _ _ _ _ _ H3.out hb hb.size)
  replace B := B.trans (hb.mono B.size)
  clear hb
  replace hl : Spots W5.heap.size W5 (spo exS) [vl] := hl
  have HL := Lib.hid hl
  clear hl
  go_wp2_with fail
  clear H2 H3
  refine (sOf_any vl exS 0 0 W5 HL.out exS_ok exS_ht).mono ?_
  rintro e W6 ⟨rfl, hb⟩
  replace HL := Lib.hid (keeps_spots _ _ _ _ _ _ HL.out hb hb.size)
  replace B := B.trans (hb.mono B.size)
  clear hb
  rw [exS_root]
  go_wp2_with fail
  obtain ⟨W7, hW, b2, hb⟩ : ∃ W, W6.alloc (.cells #[.int .i64 2, .int .i64 1] 26) = W ∧ Box W W6.heap.size [.int .i64 2, .int .i64 1] ∧ Below W6.heap.size W6 W := ⟨_, rfl, Box.new W6 _ _, below_new _ _⟩
  rw [hW]
  obtain ⟨gb2, hg⟩ : ∃ g, W6.heap.size = g := ⟨_, rfl⟩
  rw [hg] at b2
  try rw [hg]
  replace HL := Lib.hid (keeps_spots _ _ _ _ _ _ HL.out hb hb.size)
  replace B := B.trans (hb.mono B.size)
  clear hb
  clear hW hg
  refine (sOf_any vl exS 1 0 W7 HL.out exS_ok exS_ht).mono ?_
  rintro e W8 ⟨rfl, hb⟩
  replace HL := Lib.hid (keeps_spots _ _ _ _ _ _ HL.out hb hb.size)
  replace b2 := b2.next hb
  replace B := B.trans (hb.mono B.size)
  clear hb
  rw [exS_in]
  go_wp2_with fail
  obtain ⟨W9, hW, b4, hb⟩ : ∃ W, W8.alloc (.cells #[.int .i64 1, .int .i64 1] 26) = W ∧ Box W W8.heap.size [.int .i64 1, .int .i64 1] ∧ Below W8.heap.size W8 W := ⟨_, rfl, Box.new W8 _ _, below_new _ _⟩
  rw [hW]
  obtain ⟨gb4, hg⟩ : ∃ g, W8.heap.size = g := ⟨_, rfl⟩
  rw [hg] at b4
  try rw [hg]
  replace HL := Lib.hid (keeps_spots _ _ _ _ _ _ HL.out hb hb.size)
  replace b2 := b2.next hb
  replace B := B.trans (hb.mono B.size)
  clear hb
  clear hW hg
  refine (sOf_any vl exS 3 0 W9 HL.out exS_ok exS_ht).mono ?_
  rintro e W10 ⟨rfl, hb⟩
  replace HL := Lib.hid (keeps_spots _ _ _ _ _ _ HL.out hb hb.size)
  replace b2 := b2.next hb
  replace b4 := b4.next hb
  replace B := B.trans (hb.mono B.size)
  clear hb
  rw [exS_no]
  have q20 := fun o => (b2.next (below_new W10 o)).c 0 _ rfl
  have q21 := fun o => (b2.next (below_new W10 o)).c 1 _ rfl
  have q40 := fun o => (b4.next (below_new W10 o)).c 0 _ rfl
  have q41 := fun o => (b4.next (below_new W10 o)).c 1 _ rfl
  go_wp2_with fail
  obtain ⟨W11, hW, b6, hb⟩ : ∃ W, W10.alloc (.cells #[.int .i64 0, .int .i64 0] 26) = W ∧ Box W W10.heap.size [.int .i64 0, .int .i64 0] ∧ Below W10.heap.size W10 W := ⟨_, rfl, Box.new W10 _ _, below_new _ _⟩
  rw [hW]
  obtain ⟨gb6, hg⟩ : ∃ g, W10.heap.size = g := ⟨_, rfl⟩
  rw [hg] at b6
  try rw [hg]
  replace HL := Lib.hid (keeps_spots _ _ _ _ _ _ HL.out hb hb.size)
  replace b2 := b2.next hb
  replace b4 := b4.next hb
  replace B := B.trans (hb.mono B.size)
  clear hb
  clear hW hg
  clear q20 q21 q40 q41 b2 b4 b6
  refine (sSpeaks_any vl exS 1 1 W11 HL.out exS_ok exS_ht).mono ?_
  rintro e W12 ⟨vp, rfl, hp, hb⟩
  replace HL := Lib.hid (keeps_spots _ _ _ _ _ _ HL.out hb hb.size)
  replace B := B.trans (hb.mono B.size)
  clear hb
  obtain ⟨Ap, cp, rfl, _, _⟩ := mems_len hp 2 exS_one
  clear hp
  go_wp2_with fail
  refine (sSpeaks_any vl exS 0 1 W12 HL.out exS_ok exS_ht).mono ?_
  rintro e W13 ⟨vw, rfl, hp, hb⟩
  replace HL := Lib.hid (keeps_spots _ _ _ _ _ _ HL.out hb hb.size)
  replace B := B.trans (hb.mono B.size)
  clear hb
  obtain ⟨Aw, cw, rfl, _, _⟩ := mems_len hp 1 exS_two
  clear hp
  go_wp2_with fail
  clear HL
  refine (leafL_any 0 W13).mono ?_
  rintro e W14 ⟨v4, rfl, h4, hb⟩
  replace B := B.trans (hb.mono B.size)
  clear hb
  have H4 := Lib.hid h4
  clear h4
  go_wp2_with fail
  refine (sSpeaks_any v4 (some (.leaf 0 1)) 0 1 W14 H4.out (by decide +kernel) (by decide +kernel)).mono ?_
  rintro e W15 ⟨vq, rfl, hp, hb⟩
  replace H4 := Lib.hid (keeps_spots _ _ _ _ _ _ H4.out hb hb.size)
  replace B := B.trans (hb.mono B.size)
  clear hb
  obtain ⟨Aq, cq, rfl, _, _⟩ := mems_len hp 0 exS_leaf
  clear hp
  go_wp2
  go_ret
  exact ⟨rfl, B⟩

end Go.Proofs.Ytlmkgkfildgkgaa
