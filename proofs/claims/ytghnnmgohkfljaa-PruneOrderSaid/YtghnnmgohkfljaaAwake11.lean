/- The document's examples of layer 11 hold (lodgelaw11.awake answers true), and memory below is left as it was. No condition. -/
import Derived.Test.YtghnnmgohkfljaaPruC
import Derived.Test.YtghnnmgohkfljaaLens
namespace Go.Proofs.Ytghnnmgohkfljaa
open Go Go.RowKit
set_option linter.unusedVariables false

def exP : Option Tr := some (.inner 0 0 (.inner 0 0 (.leaf 0 1) (.leaf 1 1)) (.leaf 2 1))
theorem exP_ok : okT (spo exP) = true := by decide +kernel
theorem exP_a : spo (withoutO (0, 1) exP) = [(false, 0, 0), (true, 1, 1), (true, 2, 1)] := by decide +kernel
theorem exP_b : spo (keepO [(2, 1)] exP) = [(true, 2, 1)] := by decide +kernel
theorem exP_c : spo (keepO [] exP) = [] := by decide +kernel

set_option maxRecDepth 100000 in
set_option maxHeartbeats 16000000 in
theorem awake11_any (w : World) : Calls Try.prog 9 #[] w fun e W' => e = .returned (.bool true) ∧ Below w.heap.size w W' := by
  go_enter Try.func9, Try.ntmps9
  go_wp2_with fail
  have B : Below w.heap.size w w := Below.refl _ _
  refine (leafL_any 0 w).mono ?_
  rintro e W1 ⟨v0, rfl, h0, hb⟩
  replace B := B.trans (hb.mono B.size)
  clear hb
  have H0 := Lib.hid h0
  clear h0
  go_wp2_with fail
  refine (leafL_any 1 W1).mono ?_
  rintro e W2 ⟨v1, rfl, h1, hb⟩
  replace H0 := Lib.hid (keeps_spots _ _ _ _ _ _ H0.out hb hb.size)
  replace B := B.trans (hb.mono B.size)
  clear hb
  have H1 := Lib.hid h1
  clear h1
  go_wp2_with fail
  refine (refJoinS_any v0 v1 [(true, 0, 1)] [(true, 1, 1)] W2 H0.out H1.out (by decide)).mono ?_
  rintro e W3 ⟨v2, rfl, h2, hb⟩
  replace H0 := Lib.hid (keeps_spots _ _ _ _ _ _ H0.out hb hb.size)
  replace H1 := Lib.hid (keeps_spots _ _ _ _ _ _ H1.out hb hb.size)
  replace B := B.trans (hb.mono B.size)
  clear hb
  have H2 := Lib.hid h2
  clear h2
  go_wp2_with fail
  clear H0
  clear H1
  refine (leafL_any 2 W3).mono ?_
  rintro e W4 ⟨v3, rfl, h3, hb⟩
  replace H2 := Lib.hid (keeps_spots _ _ _ _ _ _ H2.out hb hb.size)
  replace B := B.trans (hb.mono B.size)
  clear hb
  have H3 := Lib.hid h3
  clear h3
  go_wp2_with fail
  refine (refJoinS_any v2 v3 (joinS [(true, 0, 1)] [(true, 1, 1)]) [(true, 2, 1)] W4 H2.out H3.out (by decide)).mono ?_
  rintro e W5 ⟨vl, rfl, hl, hb⟩
  replace H2 := Lib.hid (keeps_spots _ _ _ _ _ _ H2.out hb hb.size)
  replace H3 := Lib.hid (keeps_spots _ _ _ _ _ _ H3.out hb hb.size)
  replace B := B.trans (hb.mono B.size)
  clear hb
  replace hl : Spots W5.heap.size W5 (spo exP) [vl] := hl
  have HL := Lib.hid hl
  clear hl
  go_wp2_with fail
  clear H2
  clear H3
  refine (pWithout_any vl exP 0 1 W5 HL.out exP_ok).mono ?_
  rintro e W6 ⟨va, rfl, ha, hb⟩
  replace HL := Lib.hid (keeps_spots _ _ _ _ _ _ HL.out hb hb.size)
  replace B := B.trans (hb.mono B.size)
  clear hb
  rw [exP_a] at ha
  have HA := Lib.hid ha
  clear ha
  go_wp2_with fail
  obtain ⟨W7, hW, hm, hb⟩ : ∃ W, W6.alloc (.cells #[.int .i64 2, .int .i64 1] 25) = W ∧ Mems W.heap.size W [(2, 1)] [.slice (some ⟨W6.heap.size, 0, none⟩) 1 1] ∧ Below W6.heap.size W6 W := ⟨_, rfl, (by simpa using one_mem W6 2 1 25 _ rfl), below_new _ _⟩
  rw [hW]
  obtain ⟨gm, hg⟩ : ∃ g, W6.heap.size = g := ⟨_, rfl⟩
  rw [hg] at hm
  try rw [hg]
  replace HL := Lib.hid (keeps_spots _ _ _ _ _ _ HL.out hb hb.size)
  replace HA := Lib.hid (keeps_spots _ _ _ _ _ _ HA.out hb hb.size)
  replace B := B.trans (hb.mono B.size)
  clear hb
  clear hW hg
  have HM := Lib.hid hm
  clear hm
  refine (pOnly_any vl _ exP [(2, 1)] W7 HL.out HM.out exP_ok (by decide)).mono ?_
  rintro e W8 ⟨vb, rfl, hv, hb⟩
  replace HL := Lib.hid (keeps_spots _ _ _ _ _ _ HL.out hb hb.size)
  replace HA := Lib.hid (keeps_spots _ _ _ _ _ _ HA.out hb hb.size)
  replace HM := Lib.hid (keeps_mems _ _ _ _ _ _ HM.out hb hb.size)
  replace B := B.trans (hb.mono B.size)
  clear hb
  rw [exP_b] at hv
  have HB := Lib.hid hv
  clear hv
  go_wp2_with fail
  clear HM
  refine (leafL_any 1 W8).mono ?_
  rintro e W9 ⟨v4, rfl, h4, hb⟩
  replace HL := Lib.hid (keeps_spots _ _ _ _ _ _ HL.out hb hb.size)
  replace HA := Lib.hid (keeps_spots _ _ _ _ _ _ HA.out hb hb.size)
  replace HB := Lib.hid (keeps_spots _ _ _ _ _ _ HB.out hb hb.size)
  replace B := B.trans (hb.mono B.size)
  clear hb
  have H4 := Lib.hid h4
  clear h4
  go_wp2_with fail
  refine (leafL_any 2 W9).mono ?_
  rintro e W10 ⟨v5, rfl, h5, hb⟩
  replace HL := Lib.hid (keeps_spots _ _ _ _ _ _ HL.out hb hb.size)
  replace HA := Lib.hid (keeps_spots _ _ _ _ _ _ HA.out hb hb.size)
  replace HB := Lib.hid (keeps_spots _ _ _ _ _ _ HB.out hb hb.size)
  replace H4 := Lib.hid (keeps_spots _ _ _ _ _ _ H4.out hb hb.size)
  replace B := B.trans (hb.mono B.size)
  clear hb
  have H5 := Lib.hid h5
  clear h5
  go_wp2_with fail
  refine (refJoinS_any v4 v5 [(true, 1, 1)] [(true, 2, 1)] W10 H4.out H5.out (by decide)).mono ?_
  rintro e W11 ⟨v6, rfl, h6, hb⟩
  replace HL := Lib.hid (keeps_spots _ _ _ _ _ _ HL.out hb hb.size)
  replace HA := Lib.hid (keeps_spots _ _ _ _ _ _ HA.out hb hb.size)
  replace HB := Lib.hid (keeps_spots _ _ _ _ _ _ HB.out hb hb.size)
  replace H4 := Lib.hid (keeps_spots _ _ _ _ _ _ H4.out hb hb.size)
  replace H5 := Lib.hid (keeps_spots _ _ _ _ _ _ H5.out hb hb.size)
  replace B := B.trans (hb.mono B.size)
  clear hb
  replace h6 : Spots W11.heap.size W11 [(false, 0, 0), (true, 1, 1), (true, 2, 1)] [v6] := h6
  have H6 := Lib.hid h6
  clear h6
  go_wp2_with fail
  clear H4
  clear H5
  refine (show Calls _ _ _ _ (fun e W' => e = .returned (.bool true) ∧ Below W11.heap.size W11 W') from by have := sameS_any va v6 [(false, 0, 0), (true, 1, 1), (true, 2, 1)] [(false, 0, 0), (true, 1, 1), (true, 2, 1)] W11 HA.out H6.out (by decide); rwa [decide_eq_true rfl] at this).mono ?_
  rintro e W12 ⟨rfl, hb⟩
  replace HL := Lib.hid (keeps_spots _ _ _ _ _ _ HL.out hb hb.size)
  replace HA := Lib.hid (keeps_spots _ _ _ _ _ _ HA.out hb hb.size)
  replace HB := Lib.hid (keeps_spots _ _ _ _ _ _ HB.out hb hb.size)
  replace H6 := Lib.hid (keeps_spots _ _ _ _ _ _ H6.out hb hb.size)
  replace B := B.trans (hb.mono B.size)
  clear hb
  go_wp2_with fail
  clear HA
  clear H6
  refine (leafL_any 2 W12).mono ?_
  rintro e W13 ⟨v7, rfl, h7, hb⟩
  replace HL := Lib.hid (keeps_spots _ _ _ _ _ _ HL.out hb hb.size)
  replace HB := Lib.hid (keeps_spots _ _ _ _ _ _ HB.out hb hb.size)
  replace B := B.trans (hb.mono B.size)
  clear hb
  have H7 := Lib.hid h7
  clear h7
  go_wp2_with fail
  refine (show Calls _ _ _ _ (fun e W' => e = .returned (.bool true) ∧ Below W13.heap.size W13 W') from by have := sameS_any vb v7 [(true, 2, 1)] [(true, 2, 1)] W13 HB.out H7.out (by decide); rwa [decide_eq_true rfl] at this).mono ?_
  rintro e W14 ⟨rfl, hb⟩
  replace HL := Lib.hid (keeps_spots _ _ _ _ _ _ HL.out hb hb.size)
  replace HB := Lib.hid (keeps_spots _ _ _ _ _ _ HB.out hb hb.size)
  replace H7 := Lib.hid (keeps_spots _ _ _ _ _ _ H7.out hb hb.size)
  replace B := B.trans (hb.mono B.size)
  clear hb
  go_wp2_with fail
  clear HB
  clear H7
  refine (pOnly_any vl _ exP [] W14 HL.out (own_mems (World.ownsRow_nil _ (W14).heap.size _ _)) exP_ok (by decide)).mono ?_
  rintro e W15 ⟨vc, rfl, hc, hb⟩
  replace HL := Lib.hid (keeps_spots _ _ _ _ _ _ HL.out hb hb.size)
  replace B := B.trans (hb.mono B.size)
  clear hb
  rw [exP_c] at hc
  obtain ⟨Ac, cc, rfl, _, _⟩ := spots_len hc 0 rfl
  clear hc
  go_wp2
  go_ret
  exact ⟨rfl, B⟩

end Go.Proofs.Ytghnnmgohkfljaa
