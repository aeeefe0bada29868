import Derived.Test.YtkmlnglmecjmeaaPlaC
import Derived.Test.YtkmlnglmecjmeaaRefJ
import Derived.Test.YtkmlnglmecjmeaaJoinS
import Derived.Test.YtkmlnglmecjmeaaLens
import Derived.Test.YtkmlnglmecjmeaaPhaseA
/- The document's examples of layer 15 hold (lodgelaw15.awake answers true), and memory below is left as it was. No condition. -/
namespace Go.Proofs.Ytkmlnglmecjmeaa
open Go Go.RowKit
set_option linter.unusedVariables false

def exP : Tr := .inner 0 0 (.leaf 0 1) (.inner 0 0 (.leaf 1 1) (.leaf 2 1))
def exF : List Fl := [⟨(0, 1), (1, 0, 1), some exP, true⟩, ⟨(2, 1), (1, 0, 1), some exP, false⟩, ⟨(3, 1), (0, 0, 0), none, false⟩]
def exT : Option Tr := some (.inner 0 0 (.inner 0 0 (.leaf 0 1) (.leaf 2 1)) (.leaf 3 1))
theorem exP_is : joinS [(true, 0, 1)] (joinS [(true, 1, 1)] [(true, 2, 1)]) = spo (some exP) := by decide +kernel
theorem exP_len : (spo (some exP)).length = 5 := by decide +kernel
theorem exF_ok : okFs exF := by
  have hB : ∀ f ∈ exF, f.id ≠ (0, 0, 0) → f.id = (1, 0, 1) ∧ f.tree = some (.inner 0 0 (.leaf 0 1) (.inner 0 0 (.leaf 1 1) (.leaf 2 1))) := by
    intro f hf h0
    simp only [exF, List.mem_cons, List.not_mem_nil, or_false] at hf
    rcases hf with rfl | rfl | rfl
    · exact ⟨rfl, rfl⟩
    · exact ⟨rfl, rfl⟩
    · exact absurd rfl h0
  refine ⟨fun f hf => ?_, by decide +kernel, by decide +kernel, (1, 0, 1), .inner 0 0 (.leaf 0 1) (.inner 0 0 (.leaf 1 1) (.leaf 2 1)), hB⟩
  simp only [exF, List.mem_cons, List.not_mem_nil, or_false] at hf
  rcases hf with rfl | rfl | rfl
  · exact ⟨by decide +kernel, ⟨fun h => by simp at h, fun h => by simp at h⟩, by decide +kernel, by decide +kernel, by decide +kernel, by decide +kernel, fun t _ => by decide +kernel⟩
  · exact ⟨by decide +kernel, ⟨fun h => by simp at h, fun h => by simp at h⟩, by decide +kernel, by decide +kernel, by decide +kernel, by decide +kernel, fun t _ => by decide +kernel⟩
  · exact ⟨by decide +kernel, ⟨fun _ => rfl, fun _ => rfl⟩, by decide +kernel, by decide +kernel, by decide +kernel, by decide +kernel, fun t h => by cases h⟩
theorem exF_shape : spo (shapeO exF) = spo exT := by decide +kernel
theorem exT_ok : okT (spo exT) = true := by decide +kernel
theorem exF_fresh : freshO exF (lvO exT) = [(0, 1), (3, 1)] := by decide +kernel
theorem exF_members : membersO exF = [(0, 1), (2, 1), (3, 1)] := by decide +kernel
theorem exT_is : joinS (joinS [(true, 0, 1)] [(true, 2, 1)]) [(true, 3, 1)] = spo exT := by decide +kernel
theorem exT_len : (spo exT).length ≤ 1000 := by decide +kernel

theorem whoL_any (n : Int) (w : World) : Calls Try.prog 17 #[.int .i64 n] w fun e W' => e = .returned (.agg #[.int .i64 n, .int .i64 1]) ∧ Below w.heap.size w W' := by
  go_enter Try.func17, Try.ntmps17
  go_wp2
  (try simp only [Exit.inBlock, Exit.then]); refine bodyPost_ret (v := .agg #[.int .i64 n, .int .i64 1]) (by simp [results, Try.results17, go_sem]) rfl ?_
  exact ⟨rfl, below_new _ _⟩
set_option maxRecDepth 100000 in
set_option maxHeartbeats 16000000 in
theorem awake15_any (w : World) : Calls Try.prog 5 #[] w fun e W' => e = .returned (.bool true) ∧ Below w.heap.size w W' := by
  go_enter Try.func5, Try.ntmps5
  go_wp2_with fail
  have B : Below w.heap.size w w := Below.refl _ _
  refine (whoL_any 0 w).mono ?_
  rintro e W1 ⟨rfl, hb⟩
  replace B := B.trans (hb.mono B.size)
  clear hb
  go_wp2_with fail
  refine (refLeaf_any 0 1 W1).mono ?_
  rintro e W2 ⟨v0, rfl, hv0, hb⟩
  replace B := B.trans (hb.mono B.size)
  clear hb
  have H0 := Lib.hid hv0
  clear hv0
  go_wp2_with fail
  refine (whoL_any 1 W2).mono ?_
  rintro e W3 ⟨rfl, hb⟩
  replace H0 := Lib.hid (keeps_spots _ _ _ _ _ _ H0.out hb hb.size)
  replace B := B.trans (hb.mono B.size)
  clear hb
  go_wp2_with fail
  refine (refLeaf_any 1 1 W3).mono ?_
  rintro e W4 ⟨v1, rfl, hv1, hb⟩
  replace H0 := Lib.hid (keeps_spots _ _ _ _ _ _ H0.out hb hb.size)
  replace B := B.trans (hb.mono B.size)
  clear hb
  have H1 := Lib.hid hv1
  clear hv1
  go_wp2_with fail
  refine (whoL_any 2 W4).mono ?_
  rintro e W5 ⟨rfl, hb⟩
  replace H0 := Lib.hid (keeps_spots _ _ _ _ _ _ H0.out hb hb.size)
  replace H1 := Lib.hid (keeps_spots _ _ _ _ _ _ H1.out hb hb.size)
  replace B := B.trans (hb.mono B.size)
  clear hb
  go_wp2_with fail
  refine (refLeaf_any 2 1 W5).mono ?_
  rintro e W6 ⟨v2, rfl, hv2, hb⟩
  replace H0 := Lib.hid (keeps_spots _ _ _ _ _ _ H0.out hb hb.size)
  replace H1 := Lib.hid (keeps_spots _ _ _ _ _ _ H1.out hb hb.size)
  replace B := B.trans (hb.mono B.size)
  clear hb
  have H2 := Lib.hid hv2
  clear hv2
  go_wp2_with fail
  refine (refJoinS_any v1 v2 [(true, 1, 1)] [(true, 2, 1)] W6 H1.out H2.out (by decide)).mono ?_
  rintro e W7 ⟨v3, rfl, h3, hb⟩
  replace H0 := Lib.hid (keeps_spots _ _ _ _ _ _ H0.out hb hb.size)
  replace H1 := Lib.hid (keeps_spots _ _ _ _ _ _ H1.out hb hb.size)
  replace H2 := Lib.hid (keeps_spots _ _ _ _ _ _ H2.out hb hb.size)
  replace B := B.trans (hb.mono B.size)
  clear hb
  have H3 := Lib.hid h3
  clear h3
  go_wp2_with fail
  clear H1
  clear H2
  refine (refJoinS_any v0 v3 [(true, 0, 1)] (joinS [(true, 1, 1)] [(true, 2, 1)]) W7 H0.out H3.out (by decide)).mono ?_
  rintro e W8 ⟨vl, rfl, hl, hb⟩
  replace H0 := Lib.hid (keeps_spots _ _ _ _ _ _ H0.out hb hb.size)
  replace H3 := Lib.hid (keeps_spots _ _ _ _ _ _ H3.out hb hb.size)
  replace B := B.trans (hb.mono B.size)
  clear hb
  rw [exP_is] at hl
  obtain ⟨AL, cL, rfl, -, -⟩ := spots_len hl 5 exP_len
  have HL := Lib.hid hl
  clear hl
  go_wp2_with fail
  clear H0
  clear H3
  obtain ⟨W9, hW, b0, hb⟩ : ∃ W, W8.alloc (.cells #[.int .i64 1, .int .i64 0, .int .i64 1, .slice AL 5 cL] 34) = W ∧ Box W W8.heap.size [.int .i64 1, .int .i64 0, .int .i64 1, .slice AL 5 cL] ∧ Below W8.heap.size W8 W := ⟨_, rfl, Box.new W8 _ _, below_new _ _⟩
  rw [hW]
  obtain ⟨g0, hg⟩ : ∃ g, W8.heap.size = g := ⟨_, rfl⟩
  rw [hg] at b0
  try rw [hg]
  replace HL := Lib.hid (keeps_spots _ _ _ _ _ _ HL.out hb hb.size)
  replace B := B.trans (hb.mono B.size)
  clear hb
  clear hW hg
  go_wp2_with fail
  refine wp_region_results (fun r i => ([.agg #[.int .i64 0, .int .i64 1], .agg #[.int .i64 1, .int .i64 0, .int .i64 1, .slice AL 5 cL], .agg #[.int .i64 0, .int .i64 1, .int .i64 0, .int .i64 0, .int .i64 0, .slice none 0 0, .int .i64 1, .int .i64 0, .int .i64 1, .slice AL 5 cL, .bool true], .agg #[.int .i64 2, .int .i64 1], .agg #[.int .i64 1, .int .i64 0, .int .i64 1, .slice AL 5 cL], .agg #[.int .i64 2, .int .i64 1, .int .i64 0, .int .i64 0, .int .i64 0, .slice none 0 0, .int .i64 1, .int .i64 0, .int .i64 1, .slice AL 5 cL, .bool false], .agg #[.int .i64 3, .int .i64 1], .agg #[.int .i64 3, .int .i64 1, .int .i64 0, .int .i64 0, .int .i64 0, .slice none 0 0, .int .i64 0, .int .i64 0, .int .i64 0, .slice none 0 0, .bool false], (r 3), (r 3)] : List Value).getD i undef) [0, 3, 6, 8] [0, 0, 1, 1, 0, 2, 2, 3, 3, 4] (fun r q w' => Below W9.heap.size W9 w' ∧ (q = 4 → FHs w'.heap.size w' [⟨(0, 1), (0, 0, 0), (none, 0, 0), (1, 0, 1), (AL, 5, cL), true⟩, ⟨(2, 1), (0, 0, 0), (none, 0, 0), (1, 0, 1), (AL, 5, cL), false⟩, ⟨(3, 1), (0, 0, 0), (none, 0, 0), (0, 0, 0), (none, 0, 0), false⟩] [r 3])) (by kernel_rfl) (by kernel_rfl) (fun r => ⟨⟨rfl, rfl, rfl, Nat.le_refl _, fun _ _ => rfl⟩, (by intro h; cases h)⟩) ?_ ?_
  · refine ObsR_of_ends (by kernel_rfl) ?_
    intro r Fr hEA
    refine ⟨?_, ?_, ?_, ?_, ?_, ?_, ?_, ?_, ?_, ?_, trivial⟩
    · refine obR_call (q := 0) (f := 17) (args := #[.int .i64 0]) (want_none rfl) (by kernel_rfl) (fun w' => by simp [go_sem]) ?_
      intro w' hw
      refine (whoL_any 0 w').mono ?_
      rintro e w2 ⟨rfl, hb⟩
      exact ⟨_, rfl, fun r' hr hv => ⟨rfl, hw.1.trans (hb.mono hw.1.size), (by intro h; cases h)⟩⟩
    · refine obR_val (want_none rfl) (by kernel_rfl) (fun ph w' hp hpm hw => ?_)
      have hc0 := (hw.1.cell (p := ⟨g0, 0, none⟩) b0.lt).trans (b0.c 0 _ rfl)
      have hc1 := (hw.1.cell (p := ⟨g0, 1, none⟩) b0.lt).trans (b0.c 1 _ rfl)
      have hc2 := (hw.1.cell (p := ⟨g0, 2, none⟩) b0.lt).trans (b0.c 2 _ rfl)
      have hc3 := (hw.1.cell (p := ⟨g0, 3, none⟩) b0.lt).trans (b0.c 3 _ rfl)
      have e1 : Fr.tmps[1]? = some (.pointer (some ⟨g0, 0, none⟩)) := at_out hEA (d := 1) (by kernel_rfl); simp [execOp, e1, hc0, hc1, hc2, hc3, go_sem]
    · refine obR_val (want_none rfl) (by kernel_rfl) (fun ph w' hp hpm hw => ?_)
      have e16 : Fr.tmps[16]? = some (.agg #[.int .i64 0, .int .i64 1]) := hEA.dst 0 _ 16 rfl rfl; have e17 : Fr.tmps[17]? = some (.agg #[.int .i64 1, .int .i64 0, .int .i64 1, .slice AL 5 cL]) := hEA.dst 1 _ 17 rfl rfl; simp [execOp, e16, e17, go_sem]
    · refine obR_call (q := 1) (f := 17) (args := #[.int .i64 2]) (want_none rfl) (by kernel_rfl) (fun w' => by simp [go_sem]) ?_
      intro w' hw
      refine (whoL_any 2 w').mono ?_
      rintro e w2 ⟨rfl, hb⟩
      exact ⟨_, rfl, fun r' hr hv => ⟨rfl, hw.1.trans (hb.mono hw.1.size), (by intro h; cases h)⟩⟩
    · refine obR_val (want_none rfl) (by kernel_rfl) (fun ph w' hp hpm hw => ?_)
      have hc0 := (hw.1.cell (p := ⟨g0, 0, none⟩) b0.lt).trans (b0.c 0 _ rfl)
      have hc1 := (hw.1.cell (p := ⟨g0, 1, none⟩) b0.lt).trans (b0.c 1 _ rfl)
      have hc2 := (hw.1.cell (p := ⟨g0, 2, none⟩) b0.lt).trans (b0.c 2 _ rfl)
      have hc3 := (hw.1.cell (p := ⟨g0, 3, none⟩) b0.lt).trans (b0.c 3 _ rfl)
      have e1 : Fr.tmps[1]? = some (.pointer (some ⟨g0, 0, none⟩)) := at_out hEA (d := 1) (by kernel_rfl); simp [execOp, e1, hc0, hc1, hc2, hc3, go_sem]
    · refine obR_val (want_none rfl) (by kernel_rfl) (fun ph w' hp hpm hw => ?_)
      have e19 : Fr.tmps[19]? = some (.agg #[.int .i64 2, .int .i64 1]) := hEA.dst 3 _ 19 rfl rfl; have e20 : Fr.tmps[20]? = some (.agg #[.int .i64 1, .int .i64 0, .int .i64 1, .slice AL 5 cL]) := hEA.dst 4 _ 20 rfl rfl; simp [execOp, e19, e20, go_sem]
    · refine obR_call (q := 2) (f := 17) (args := #[.int .i64 3]) (want_none rfl) (by kernel_rfl) (fun w' => by simp [go_sem]) ?_
      intro w' hw
      refine (whoL_any 3 w').mono ?_
      rintro e w2 ⟨rfl, hb⟩
      exact ⟨_, rfl, fun r' hr hv => ⟨rfl, hw.1.trans (hb.mono hw.1.size), (by intro h; cases h)⟩⟩
    · refine obR_val (want_none rfl) (by kernel_rfl) (fun ph w' hp hpm hw => ?_)
      have e22 : Fr.tmps[22]? = some (.agg #[.int .i64 3, .int .i64 1]) := hEA.dst 6 _ 22 rfl rfl; simp [execOp, e22, go_sem]
    · refine obR_make (q := 3) (want_none rfl) (by kernel_rfl) (fun w' hw => ?_)
      have e18 : Fr.tmps[18]? = some (.agg #[.int .i64 0, .int .i64 1, .int .i64 0, .int .i64 0, .int .i64 0, .slice none 0 0, .int .i64 1, .int .i64 0, .int .i64 1, .slice AL 5 cL, .bool true]) := hEA.dst 2 _ 18 rfl rfl; have e21 : Fr.tmps[21]? = some (.agg #[.int .i64 2, .int .i64 1, .int .i64 0, .int .i64 0, .int .i64 0, .slice none 0 0, .int .i64 1, .int .i64 0, .int .i64 1, .slice AL 5 cL, .bool false]) := hEA.dst 5 _ 21 rfl rfl; have e23 : Fr.tmps[23]? = some (.agg #[.int .i64 3, .int .i64 1, .int .i64 0, .int .i64 0, .int .i64 0, .slice none 0 0, .int .i64 0, .int .i64 0, .int .i64 0, .slice none 0 0, .bool false]) := hEA.dst 7 _ 23 rfl rfl; 
      exact ⟨.slice (some ⟨w'.heap.size, 0, none⟩) 3 3, w'.alloc (.cells #[.int .i64 0, .int .i64 1, .int .i64 0, .int .i64 0, .int .i64 0, .slice none 0 0, .int .i64 1, .int .i64 0, .int .i64 1, .slice AL 5 cL, .bool true, .int .i64 2, .int .i64 1, .int .i64 0, .int .i64 0, .int .i64 0, .slice none 0 0, .int .i64 1, .int .i64 0, .int .i64 1, .slice AL 5 cL, .bool false, .int .i64 3, .int .i64 1, .int .i64 0, .int .i64 0, .int .i64 0, .slice none 0 0, .int .i64 0, .int .i64 0, .int .i64 0, .slice none 0 0, .bool false] 36), by simp [execOp, e18, e21, e23, go_sem], fun r' hr hv => ⟨hv, hw.1.alloc hw.1.size _, fun _ => by rw [hv]; exact own_fhs (laid_own w' [⟨(0, 1), (0, 0, 0), (none, 0, 0), (1, 0, 1), (AL, 5, cL), true⟩, ⟨(2, 1), (0, 0, 0), (none, 0, 0), (1, 0, 1), (AL, 5, cL), false⟩, ⟨(3, 1), (0, 0, 0), (none, 0, 0), (0, 0, 0), (none, 0, 0), false⟩] (by simp) _ rfl _ (Nat.le_refl _))⟩⟩
    · refine obR_val (want_none rfl) (by kernel_rfl) (fun ph w' hp hpm hw => ?_)
      have e24 : Fr.tmps[24]? = some ((r 3)) := hEA.dst 8 _ 24 rfl rfl; simp [execOp, e24, go_sem]
  · intro r w' hw
    simp only [laid, Act.put, List.setIfInBounds_toArray, List.set_cons_succ, List.set_cons_zero, List.getD_cons_succ, List.getD_cons_zero, Nat.zero_add, Nat.reduceAdd]
    obtain ⟨w2, hw2⟩ : ∃ w2, w' = w2 := ⟨_, rfl⟩
    rw [hw2] at hw
    try rw [hw2]
    clear hw2
    have hfs := hw.2 rfl
    have hb := hw.1
    obtain ⟨v5, hv5⟩ : ∃ v5, r 3 = v5 := ⟨_, rfl⟩
    rw [hv5] at hfs
    rw [hv5]
    clear hw hv5
    replace HL := Lib.hid (keeps_spots _ _ _ _ _ _ HL.out hb hb.size)
    replace B := B.trans (hb.mono B.size)
    clear hb
    have he : EachF w2.heap.size w2 [⟨(0, 1), (0, 0, 0), (none, 0, 0), (1, 0, 1), (AL, 5, cL), true⟩, ⟨(2, 1), (0, 0, 0), (none, 0, 0), (1, 0, 1), (AL, 5, cL), false⟩, ⟨(3, 1), (0, 0, 0), (none, 0, 0), (0, 0, 0), (none, 0, 0), false⟩] exF := (Pairs.one (R := TellsF) (h := ⟨(0, 1), (0, 0, 0), (none, 0, 0), (1, 0, 1), (AL, 5, cL), true⟩) ⟨rfl, rfl, rfl, HL.out⟩).append ((Pairs.one (R := TellsF) (h := ⟨(2, 1), (0, 0, 0), (none, 0, 0), (1, 0, 1), (AL, 5, cL), false⟩) ⟨rfl, rfl, rfl, HL.out⟩).append (Pairs.one (R := TellsF) (h := ⟨(3, 1), (0, 0, 0), (none, 0, 0), (0, 0, 0), (none, 0, 0), false⟩) ⟨rfl, rfl, rfl, ⟨none, 0, rfl, Nat.le_refl _, Nat.zero_le _, fun _ => rfl, fun h => absurd h (by decide)⟩⟩))
    obtain ⟨hsx, hhs⟩ : ∃ hs : List FH, hs = [⟨(0, 1), (0, 0, 0), (none, 0, 0), (1, 0, 1), (AL, 5, cL), true⟩, ⟨(2, 1), (0, 0, 0), (none, 0, 0), (1, 0, 1), (AL, 5, cL), false⟩, ⟨(3, 1), (0, 0, 0), (none, 0, 0), (0, 0, 0), (none, 0, 0), false⟩] := ⟨_, rfl⟩
    rw [← hhs] at he hfs
    have HF := Lib.hid hfs
    have HE := Lib.hid he
    clear he hfs hhs
    go_wp2_with fail
    refine (pShape_any _ hsx exF w2 HF.out HE.out exF_ok).mono ?_
    rintro e W10 ⟨vt, rfl, ht, hb⟩
    replace HE := Lib.hid (HE.out.keep hb hb.size)
    replace HF := Lib.hid (keeps_fhs _ _ _ _ _ _ HF.out hb hb.size)
    replace B := B.trans (hb.mono B.size)
    clear hb
    have HT := Lib.hid ht
    clear ht
    rw [exF_shape] at HT
    go_wp2_with fail
    refine (pFresh_any _ vt hsx exF exT W10 HF.out HE.out exF_ok HT.out exT_ok).mono ?_
    rintro e W11 ⟨vf, rfl, hf, hb⟩
    replace HE := Lib.hid (HE.out.keep hb hb.size)
    replace HF := Lib.hid (keeps_fhs _ _ _ _ _ _ HF.out hb hb.size)
    replace HT := Lib.hid (keeps_spots _ _ _ _ _ _ HT.out hb hb.size)
    replace B := B.trans (hb.mono B.size)
    clear hb
    have HG := Lib.hid hf
    clear hf
    rw [exF_fresh] at HG
    go_wp2_with fail
    refine (pMembers_any _ hsx exF W11 HF.out HE.out exF_ok).mono ?_
    rintro e W12 ⟨vm, rfl, hm, hb⟩
    replace HE := Lib.hid (HE.out.keep hb hb.size)
    replace HF := Lib.hid (keeps_fhs _ _ _ _ _ _ HF.out hb hb.size)
    replace HT := Lib.hid (keeps_spots _ _ _ _ _ _ HT.out hb hb.size)
    replace HG := Lib.hid (keeps_mems _ _ _ _ _ _ HG.out hb hb.size)
    replace B := B.trans (hb.mono B.size)
    clear hb
    have HM := Lib.hid hm
    clear hm
    rw [exF_members] at HM
    obtain ⟨A4, c4, e4, hl4, hc4, hp4⟩ := mems_at HG.out
    obtain ⟨A5, c5, e5, hl5, hc5, hp5⟩ := mems_at HM.out
    obtain ⟨g4, o4, rfl, hg4, f0, f1⟩ := hp4 0 (by decide)
    obtain ⟨_, _, e, _, f2, f3⟩ := hp4 1 (by decide)
    simp only [Option.some.injEq, Addr.mk.injEq, and_true] at e
    obtain ⟨rfl, rfl⟩ := e
    obtain ⟨g5, o5, rfl, hg5, f4, f5⟩ := hp5 1 (by decide)
    simp only [List.length_cons, List.length_nil, Nat.zero_add, Nat.reduceAdd] at e4 e5
    subst e4 e5
    simp only [List.getElem_cons_zero, List.getElem_cons_succ, Nat.zero_mul, Nat.add_zero, Nat.one_mul] at f0 f1 f2 f3 f4 f5
    clear hp4 hp5 HE
    go_wp2_with fail
    refine wp_region_results (fun r i => ([vt, .agg #[.int .i64 0, .int .i64 1], (r 1), .agg #[.int .i64 2, .int .i64 1], (r 3), (r 4), .agg #[.int .i64 3, .int .i64 1], (r 6), (r 7), .bool true, .bool true, .slice (some ⟨g4, o4, none⟩) 2 c4, .int .i64 2, .bool true, .bool true, .bool true, .slice (some ⟨g4, o4, none⟩) 2 c4, .pointer (some ⟨g4, o4, none⟩), .agg #[.int .i64 0, .int .i64 1], .agg #[.int .i64 0, .int .i64 1], .bool true, .bool true, .bool true, .slice (some ⟨g4, o4, none⟩) 2 c4, .pointer (some ⟨g4, o4 + 2, none⟩), .agg #[.int .i64 3, .int .i64 1], .agg #[.int .i64 3, .int .i64 1], .bool true, .bool true, .bool true, .slice (some ⟨g5, o5, none⟩) 3 c5, .int .i64 3, .bool true, .bool true, .bool true, .slice (some ⟨g5, o5, none⟩) 3 c5, .pointer (some ⟨g5, o5 + 2, none⟩), .agg #[.int .i64 2, .int .i64 1], .agg #[.int .i64 2, .int .i64 1], .bool true, .bool true, .bool true] : List Value).getD i undef) [1, 2, 3, 4, 5, 6, 7, 8, 9, 19, 26, 38] [0, 0, 1, 2, 3, 4, 5, 6, 7, 8, 9, 9, 9, 9, 9, 9, 9, 9, 9, 9, 10, 10, 10, 10, 10, 10, 10, 11, 11, 11, 11, 11, 11, 11, 11, 11, 11, 11, 11, 12, 12, 12] (fun r q w' => (Below W12.heap.size W12 w') ∧ (1 < q → Spots w'.heap.size w' [(true, 0, 1)] [(r 1)]) ∧ (3 < q → Spots w'.heap.size w' [(true, 2, 1)] [(r 3)]) ∧ (4 < q → Spots w'.heap.size w' (joinS [(true, 0, 1)] [(true, 2, 1)]) [(r 4)]) ∧ (6 < q → Spots w'.heap.size w' [(true, 3, 1)] [(r 6)]) ∧ (7 < q → Spots w'.heap.size w' (joinS (joinS [(true, 0, 1)] [(true, 2, 1)]) [(true, 3, 1)]) [(r 7)])) (by kernel_rfl) (by kernel_rfl) (fun r => ⟨⟨rfl, rfl, rfl, Nat.le_refl _, fun _ _ => rfl⟩, fun h => absurd h (Nat.not_lt_zero _), fun h => absurd h (Nat.not_lt_zero _), fun h => absurd h (Nat.not_lt_zero _), fun h => absurd h (Nat.not_lt_zero _), fun h => absurd h (Nat.not_lt_zero _)⟩) ?_ ?_
    · refine ObsR_of_ends (by kernel_rfl) ?_
      intro r Fr hEA
      refine ⟨?_, ?_, ?_, ?_, ?_, ?_, ?_, ?_, ?_, ?_, ?_, ?_, ?_, ?_, ?_, ?_, ?_, ?_, ?_, ?_, ?_, ?_, ?_, ?_, ?_, ?_, ?_, ?_, ?_, ?_, ?_, ?_, ?_, ?_, ?_, ?_, ?_, ?_, ?_, ?_, ?_, ?_, trivial⟩
      · exact obR_move _ rfl (want_none rfl) (by kernel_rfl) (eval_out hEA (d := 3) (by kernel_rfl))
      · refine obR_call (q := 0) (f := 17) (args := #[.int .i64 0]) (want_none rfl) (by kernel_rfl) (fun w' => by simp [go_sem]) ?_
        intro w' hw
        refine (whoL_any 0 w').mono ?_
        rintro e w2 ⟨rfl, hb⟩
        exact ⟨_, rfl, fun r' hr hv => ⟨rfl, ⟨hw.1.trans (hb.mono hw.1.size), fun h => absurd h (by decide), fun h => absurd h (by decide), fun h => absurd h (by decide), fun h => absurd h (by decide), fun h => absurd h (by decide)⟩⟩⟩
      · refine obR_call (q := 1) (f := 16) (args := #[.agg #[.int .i64 0, .int .i64 1]]) (want_none rfl) (by kernel_rfl) (fun w' => by have e33 : Fr.tmps[33]? = some (.agg #[.int .i64 0, .int .i64 1]) := hEA.dst 1 _ 33 rfl rfl; simp [e33, go_sem]) ?_
        intro w' hw
        refine (refLeaf_any 0 1 w').mono ?_
        rintro e w2 ⟨v', rfl, hs, hb⟩
        exact ⟨_, rfl, fun r' hr hv => ⟨hv, ⟨hw.1.trans (hb.mono hw.1.size), fun _ => by rw [hv]; exact hs, fun h => absurd h (by decide), fun h => absurd h (by decide), fun h => absurd h (by decide), fun h => absurd h (by decide)⟩⟩⟩
      · refine obR_call (q := 2) (f := 17) (args := #[.int .i64 2]) (want_none rfl) (by kernel_rfl) (fun w' => by simp [go_sem]) ?_
        intro w' hw
        refine (whoL_any 2 w').mono ?_
        rintro e w2 ⟨rfl, hb⟩
        exact ⟨_, rfl, fun r' hr hv => ⟨rfl, ⟨hw.1.trans (hb.mono hw.1.size), fun _ => by rw [hr 1 (by decide)]; exact keeps_spots _ _ _ _ _ _ (hw.2.1 (by decide)) hb hb.size, fun h => absurd h (by decide), fun h => absurd h (by decide), fun h => absurd h (by decide), fun h => absurd h (by decide)⟩⟩⟩
      · refine obR_call (q := 3) (f := 16) (args := #[.agg #[.int .i64 2, .int .i64 1]]) (want_none rfl) (by kernel_rfl) (fun w' => by have e35 : Fr.tmps[35]? = some (.agg #[.int .i64 2, .int .i64 1]) := hEA.dst 3 _ 35 rfl rfl; simp [e35, go_sem]) ?_
        intro w' hw
        refine (refLeaf_any 2 1 w').mono ?_
        rintro e w2 ⟨v', rfl, hs, hb⟩
        exact ⟨_, rfl, fun r' hr hv => ⟨hv, ⟨hw.1.trans (hb.mono hw.1.size), fun _ => by rw [hr 1 (by decide)]; exact keeps_spots _ _ _ _ _ _ (hw.2.1 (by decide)) hb hb.size, fun _ => by rw [hv]; exact hs, fun h => absurd h (by decide), fun h => absurd h (by decide), fun h => absurd h (by decide)⟩⟩⟩
      · refine obR_call (q := 4) (f := 15) (args := #[(r 1), (r 3)]) (want_none rfl) (by kernel_rfl) (fun w' => by have e34 : Fr.tmps[34]? = some ((r 1)) := hEA.dst 2 _ 34 rfl rfl; have e36 : Fr.tmps[36]? = some ((r 3)) := hEA.dst 4 _ 36 rfl rfl; simp [e34, e36, go_sem]) ?_
        intro w' hw
        refine (refJoinS_any (r 1) (r 3) [(true, 0, 1)] [(true, 2, 1)] w' (hw.2.1 (by decide)) (hw.2.2.1 (by decide)) (by decide)).mono ?_
        rintro e w2 ⟨v', rfl, hs, hb⟩
        exact ⟨_, rfl, fun r' hr hv => ⟨hv, ⟨hw.1.trans (hb.mono hw.1.size), fun _ => by rw [hr 1 (by decide)]; exact keeps_spots _ _ _ _ _ _ (hw.2.1 (by decide)) hb hb.size, fun _ => by rw [hr 3 (by decide)]; exact keeps_spots _ _ _ _ _ _ (hw.2.2.1 (by decide)) hb hb.size, fun _ => by rw [hv]; exact hs, fun h => absurd h (by decide), fun h => absurd h (by decide)⟩⟩⟩
      · refine obR_call (q := 5) (f := 17) (args := #[.int .i64 3]) (want_none rfl) (by kernel_rfl) (fun w' => by simp [go_sem]) ?_
        intro w' hw
        refine (whoL_any 3 w').mono ?_
        rintro e w2 ⟨rfl, hb⟩
        exact ⟨_, rfl, fun r' hr hv => ⟨rfl, ⟨hw.1.trans (hb.mono hw.1.size), fun _ => by rw [hr 1 (by decide)]; exact keeps_spots _ _ _ _ _ _ (hw.2.1 (by decide)) hb hb.size, fun _ => by rw [hr 3 (by decide)]; exact keeps_spots _ _ _ _ _ _ (hw.2.2.1 (by decide)) hb hb.size, fun _ => by rw [hr 4 (by decide)]; exact keeps_spots _ _ _ _ _ _ (hw.2.2.2.1 (by decide)) hb hb.size, fun h => absurd h (by decide), fun h => absurd h (by decide)⟩⟩⟩
      · refine obR_call (q := 6) (f := 16) (args := #[.agg #[.int .i64 3, .int .i64 1]]) (want_none rfl) (by kernel_rfl) (fun w' => by have e38 : Fr.tmps[38]? = some (.agg #[.int .i64 3, .int .i64 1]) := hEA.dst 6 _ 38 rfl rfl; simp [e38, go_sem]) ?_
        intro w' hw
        refine (refLeaf_any 3 1 w').mono ?_
        rintro e w2 ⟨v', rfl, hs, hb⟩
        exact ⟨_, rfl, fun r' hr hv => ⟨hv, ⟨hw.1.trans (hb.mono hw.1.size), fun _ => by rw [hr 1 (by decide)]; exact keeps_spots _ _ _ _ _ _ (hw.2.1 (by decide)) hb hb.size, fun _ => by rw [hr 3 (by decide)]; exact keeps_spots _ _ _ _ _ _ (hw.2.2.1 (by decide)) hb hb.size, fun _ => by rw [hr 4 (by decide)]; exact keeps_spots _ _ _ _ _ _ (hw.2.2.2.1 (by decide)) hb hb.size, fun _ => by rw [hv]; exact hs, fun h => absurd h (by decide)⟩⟩⟩
      · refine obR_call (q := 7) (f := 15) (args := #[(r 4), (r 6)]) (want_none rfl) (by kernel_rfl) (fun w' => by have e37 : Fr.tmps[37]? = some ((r 4)) := hEA.dst 5 _ 37 rfl rfl; have e39 : Fr.tmps[39]? = some ((r 6)) := hEA.dst 7 _ 39 rfl rfl; simp [e37, e39, go_sem]) ?_
        intro w' hw
        refine (refJoinS_any (r 4) (r 6) (joinS [(true, 0, 1)] [(true, 2, 1)]) [(true, 3, 1)] w' (hw.2.2.2.1 (by decide)) (hw.2.2.2.2.1 (by decide)) (by decide)).mono ?_
        rintro e w2 ⟨v', rfl, hs, hb⟩
        exact ⟨_, rfl, fun r' hr hv => ⟨hv, ⟨hw.1.trans (hb.mono hw.1.size), fun _ => by rw [hr 1 (by decide)]; exact keeps_spots _ _ _ _ _ _ (hw.2.1 (by decide)) hb hb.size, fun _ => by rw [hr 3 (by decide)]; exact keeps_spots _ _ _ _ _ _ (hw.2.2.1 (by decide)) hb hb.size, fun _ => by rw [hr 4 (by decide)]; exact keeps_spots _ _ _ _ _ _ (hw.2.2.2.1 (by decide)) hb hb.size, fun _ => by rw [hr 6 (by decide)]; exact keeps_spots _ _ _ _ _ _ (hw.2.2.2.2.1 (by decide)) hb hb.size, fun _ => by rw [hv]; exact hs⟩⟩⟩
      · refine obR_call (q := 8) (f := 10) (args := #[vt, (r 7)]) (want_none rfl) (by kernel_rfl) (fun w' => by have e32 : Fr.tmps[32]? = some (vt) := hEA.dst 0 _ 32 rfl rfl; have e40 : Fr.tmps[40]? = some ((r 7)) := hEA.dst 8 _ 40 rfl rfl; simp [e32, e40, go_sem]) ?_
        intro w' hw
        have hz := (hw.2.2.2.2.2 (by decide))
        rw [exT_is] at hz
        refine ((show Calls _ _ _ _ (fun e W' => e = .returned (.bool true) ∧ Below w'.heap.size w' W') from by have := sameS_any vt (r 7) (spo exT) (spo exT) w' (keeps_spots _ _ _ _ _ _ HT.out hw.1 hw.1.size) hz (Nat.le_trans exT_len (by decide)); rwa [show decide (spo exT = spo exT) = true from decide_eq_true rfl] at this)).mono ?_
        rintro e w2 ⟨rfl, hb⟩
        exact ⟨_, rfl, fun r' hr hv => ⟨rfl, ⟨hw.1.trans (hb.mono hw.1.size), fun _ => by rw [hr 1 (by decide)]; exact keeps_spots _ _ _ _ _ _ (hw.2.1 (by decide)) hb hb.size, fun _ => by rw [hr 3 (by decide)]; exact keeps_spots _ _ _ _ _ _ (hw.2.2.1 (by decide)) hb hb.size, fun _ => by rw [hr 4 (by decide)]; exact keeps_spots _ _ _ _ _ _ (hw.2.2.2.1 (by decide)) hb hb.size, fun _ => by rw [hr 6 (by decide)]; exact keeps_spots _ _ _ _ _ _ (hw.2.2.2.2.1 (by decide)) hb hb.size, fun _ => by rw [hr 7 (by decide)]; exact keeps_spots _ _ _ _ _ _ (hw.2.2.2.2.2 (by decide)) hb hb.size⟩⟩⟩
      · exact obR_move _ rfl (want_none rfl) (by kernel_rfl) (eval_dst hEA (j := 9) rfl rfl)
      · exact obR_move _ rfl (want_is hEA (g := 10) (x := true) (b := true) rfl rfl rfl rfl) (by kernel_rfl) (eval_out hEA (d := 4) (by kernel_rfl))
      · refine obR_val (want_is hEA (g := 10) (x := true) (b := true) rfl rfl rfl rfl) (by kernel_rfl) (fun ph w' hp hpm hw => ?_)
        have e43 : Fr.tmps[43]? = some (.slice (some ⟨g4, o4, none⟩) 2 c4) := hEA.dst 11 _ 43 rfl rfl; simp [e43, go_sem]
      · refine obR_val (want_is hEA (g := 10) (x := true) (b := true) rfl rfl rfl rfl) (by kernel_rfl) (fun ph w' hp hpm hw => ?_)
        have e44 : Fr.tmps[44]? = some (.int .i64 2) := hEA.dst 12 _ 44 rfl rfl; simp [execOp, e44, go_sem]
      · refine obR_val (want_none rfl) (by kernel_rfl) (fun ph w' hp hpm hw => ?_)
        have e42 : Fr.tmps[42]? = some (.bool true) := hEA.dst 10 _ 42 rfl rfl; have e45 : Fr.tmps[45]? = some (.bool true) := hEA.dst 13 _ 45 rfl rfl; simp [execOp, e42, e45, go_sem]
      · exact obR_move _ rfl (want_none rfl) (by kernel_rfl) (eval_dst hEA (j := 14) rfl rfl)
      · exact obR_move _ rfl (want_is hEA (g := 15) (x := true) (b := true) rfl rfl rfl rfl) (by kernel_rfl) (eval_out hEA (d := 4) (by kernel_rfl))
      · refine obR_val (want_is hEA (g := 15) (x := true) (b := true) rfl rfl rfl rfl) (by kernel_rfl) (fun ph w' hp hpm hw => ?_)
        have e48 : Fr.tmps[48]? = some (.slice (some ⟨g4, o4, none⟩) 2 c4) := hEA.dst 16 _ 48 rfl rfl; simp [execOp, e48, go_sem]
      · refine obR_val (want_is hEA (g := 15) (x := true) (b := true) rfl rfl rfl rfl) (by kernel_rfl) (fun ph w' hp hpm hw => ?_)
        have hc0 := (hw.1.cell (p := ⟨g4, o4, none⟩) hg4).trans f0
        have hc1 := (hw.1.cell (p := ⟨g4, o4 + 1, none⟩) hg4).trans f1
        have e49 : Fr.tmps[49]? = some (.pointer (some ⟨g4, o4, none⟩)) := hEA.dst 17 _ 49 rfl rfl; simp [execOp, e49, hc0, hc1, go_sem]
      · refine obR_call (q := 9) (f := 17) (args := #[.int .i64 0]) (want_is hEA (g := 15) (x := true) (b := true) rfl rfl rfl rfl) (by kernel_rfl) (fun w' => by simp [go_sem]) ?_
        intro w' hw
        refine (whoL_any 0 w').mono ?_
        rintro e w2 ⟨rfl, hb⟩
        exact ⟨_, rfl, fun r' hr hv => ⟨rfl, ⟨hw.1.trans (hb.mono hw.1.size), fun _ => by rw [hr 1 (by decide)]; exact keeps_spots _ _ _ _ _ _ (hw.2.1 (by decide)) hb hb.size, fun _ => by rw [hr 3 (by decide)]; exact keeps_spots _ _ _ _ _ _ (hw.2.2.1 (by decide)) hb hb.size, fun _ => by rw [hr 4 (by decide)]; exact keeps_spots _ _ _ _ _ _ (hw.2.2.2.1 (by decide)) hb hb.size, fun _ => by rw [hr 6 (by decide)]; exact keeps_spots _ _ _ _ _ _ (hw.2.2.2.2.1 (by decide)) hb hb.size, fun _ => by rw [hr 7 (by decide)]; exact keeps_spots _ _ _ _ _ _ (hw.2.2.2.2.2 (by decide)) hb hb.size⟩⟩⟩
      · refine obR_val (want_is hEA (g := 15) (x := true) (b := true) rfl rfl rfl rfl) (by kernel_rfl) (fun ph w' hp hpm hw => ?_)
        have e50 : Fr.tmps[50]? = some (.agg #[.int .i64 0, .int .i64 1]) := hEA.dst 18 _ 50 rfl rfl; have e51 : Fr.tmps[51]? = some (.agg #[.int .i64 0, .int .i64 1]) := hEA.dst 19 _ 51 rfl rfl; simp [execOp, e50, e51, go_sem]
      · refine obR_val (want_none rfl) (by kernel_rfl) (fun ph w' hp hpm hw => ?_)
        have e47 : Fr.tmps[47]? = some (.bool true) := hEA.dst 15 _ 47 rfl rfl; have e52 : Fr.tmps[52]? = some (.bool true) := hEA.dst 20 _ 52 rfl rfl; simp [execOp, e47, e52, go_sem]
      · exact obR_move _ rfl (want_none rfl) (by kernel_rfl) (eval_dst hEA (j := 21) rfl rfl)
      · exact obR_move _ rfl (want_is hEA (g := 22) (x := true) (b := true) rfl rfl rfl rfl) (by kernel_rfl) (eval_out hEA (d := 4) (by kernel_rfl))
      · refine obR_val (want_is hEA (g := 22) (x := true) (b := true) rfl rfl rfl rfl) (by kernel_rfl) (fun ph w' hp hpm hw => ?_)
        have e55 : Fr.tmps[55]? = some (.slice (some ⟨g4, o4, none⟩) 2 c4) := hEA.dst 23 _ 55 rfl rfl; simp [execOp, e55, go_sem]
      · refine obR_val (want_is hEA (g := 22) (x := true) (b := true) rfl rfl rfl rfl) (by kernel_rfl) (fun ph w' hp hpm hw => ?_)
        have hc0 := (hw.1.cell (p := ⟨g4, o4 + 2, none⟩) hg4).trans f2
        have hc1 := (hw.1.cell (p := ⟨g4, o4 + 2 + 1, none⟩) hg4).trans f3
        have e56 : Fr.tmps[56]? = some (.pointer (some ⟨g4, o4 + 2, none⟩)) := hEA.dst 24 _ 56 rfl rfl; simp [execOp, e56, hc0, hc1, go_sem]
      · refine obR_call (q := 10) (f := 17) (args := #[.int .i64 3]) (want_is hEA (g := 22) (x := true) (b := true) rfl rfl rfl rfl) (by kernel_rfl) (fun w' => by simp [go_sem]) ?_
        intro w' hw
        refine (whoL_any 3 w').mono ?_
        rintro e w2 ⟨rfl, hb⟩
        exact ⟨_, rfl, fun r' hr hv => ⟨rfl, ⟨hw.1.trans (hb.mono hw.1.size), fun _ => by rw [hr 1 (by decide)]; exact keeps_spots _ _ _ _ _ _ (hw.2.1 (by decide)) hb hb.size, fun _ => by rw [hr 3 (by decide)]; exact keeps_spots _ _ _ _ _ _ (hw.2.2.1 (by decide)) hb hb.size, fun _ => by rw [hr 4 (by decide)]; exact keeps_spots _ _ _ _ _ _ (hw.2.2.2.1 (by decide)) hb hb.size, fun _ => by rw [hr 6 (by decide)]; exact keeps_spots _ _ _ _ _ _ (hw.2.2.2.2.1 (by decide)) hb hb.size, fun _ => by rw [hr 7 (by decide)]; exact keeps_spots _ _ _ _ _ _ (hw.2.2.2.2.2 (by decide)) hb hb.size⟩⟩⟩
      · refine obR_val (want_is hEA (g := 22) (x := true) (b := true) rfl rfl rfl rfl) (by kernel_rfl) (fun ph w' hp hpm hw => ?_)
        have e57 : Fr.tmps[57]? = some (.agg #[.int .i64 3, .int .i64 1]) := hEA.dst 25 _ 57 rfl rfl; have e58 : Fr.tmps[58]? = some (.agg #[.int .i64 3, .int .i64 1]) := hEA.dst 26 _ 58 rfl rfl; simp [execOp, e57, e58, go_sem]
      · refine obR_val (want_none rfl) (by kernel_rfl) (fun ph w' hp hpm hw => ?_)
        have e54 : Fr.tmps[54]? = some (.bool true) := hEA.dst 22 _ 54 rfl rfl; have e59 : Fr.tmps[59]? = some (.bool true) := hEA.dst 27 _ 59 rfl rfl; simp [execOp, e54, e59, go_sem]
      · exact obR_move _ rfl (want_none rfl) (by kernel_rfl) (eval_dst hEA (j := 28) rfl rfl)
      · exact obR_move _ rfl (want_is hEA (g := 29) (x := true) (b := true) rfl rfl rfl rfl) (by kernel_rfl) (eval_out hEA (d := 5) (by kernel_rfl))
      · refine obR_val (want_is hEA (g := 29) (x := true) (b := true) rfl rfl rfl rfl) (by kernel_rfl) (fun ph w' hp hpm hw => ?_)
        have e62 : Fr.tmps[62]? = some (.slice (some ⟨g5, o5, none⟩) 3 c5) := hEA.dst 30 _ 62 rfl rfl; simp [e62, go_sem]
      · refine obR_val (want_is hEA (g := 29) (x := true) (b := true) rfl rfl rfl rfl) (by kernel_rfl) (fun ph w' hp hpm hw => ?_)
        have e63 : Fr.tmps[63]? = some (.int .i64 3) := hEA.dst 31 _ 63 rfl rfl; simp [execOp, e63, go_sem]
      · refine obR_val (want_none rfl) (by kernel_rfl) (fun ph w' hp hpm hw => ?_)
        have e61 : Fr.tmps[61]? = some (.bool true) := hEA.dst 29 _ 61 rfl rfl; have e64 : Fr.tmps[64]? = some (.bool true) := hEA.dst 32 _ 64 rfl rfl; simp [execOp, e61, e64, go_sem]
      · exact obR_move _ rfl (want_none rfl) (by kernel_rfl) (eval_dst hEA (j := 33) rfl rfl)
      · exact obR_move _ rfl (want_is hEA (g := 34) (x := true) (b := true) rfl rfl rfl rfl) (by kernel_rfl) (eval_out hEA (d := 5) (by kernel_rfl))
      · refine obR_val (want_is hEA (g := 34) (x := true) (b := true) rfl rfl rfl rfl) (by kernel_rfl) (fun ph w' hp hpm hw => ?_)
        have e67 : Fr.tmps[67]? = some (.slice (some ⟨g5, o5, none⟩) 3 c5) := hEA.dst 35 _ 67 rfl rfl; simp [execOp, e67, go_sem]
      · refine obR_val (want_is hEA (g := 34) (x := true) (b := true) rfl rfl rfl rfl) (by kernel_rfl) (fun ph w' hp hpm hw => ?_)
        have hc0 := (hw.1.cell (p := ⟨g5, o5 + 2, none⟩) hg5).trans f4
        have hc1 := (hw.1.cell (p := ⟨g5, o5 + 2 + 1, none⟩) hg5).trans f5
        have e68 : Fr.tmps[68]? = some (.pointer (some ⟨g5, o5 + 2, none⟩)) := hEA.dst 36 _ 68 rfl rfl; simp [execOp, e68, hc0, hc1, go_sem]
      · refine obR_call (q := 11) (f := 17) (args := #[.int .i64 2]) (want_is hEA (g := 34) (x := true) (b := true) rfl rfl rfl rfl) (by kernel_rfl) (fun w' => by simp [go_sem]) ?_
        intro w' hw
        refine (whoL_any 2 w').mono ?_
        rintro e w2 ⟨rfl, hb⟩
        exact ⟨_, rfl, fun r' hr hv => ⟨rfl, ⟨hw.1.trans (hb.mono hw.1.size), fun _ => by rw [hr 1 (by decide)]; exact keeps_spots _ _ _ _ _ _ (hw.2.1 (by decide)) hb hb.size, fun _ => by rw [hr 3 (by decide)]; exact keeps_spots _ _ _ _ _ _ (hw.2.2.1 (by decide)) hb hb.size, fun _ => by rw [hr 4 (by decide)]; exact keeps_spots _ _ _ _ _ _ (hw.2.2.2.1 (by decide)) hb hb.size, fun _ => by rw [hr 6 (by decide)]; exact keeps_spots _ _ _ _ _ _ (hw.2.2.2.2.1 (by decide)) hb hb.size, fun _ => by rw [hr 7 (by decide)]; exact keeps_spots _ _ _ _ _ _ (hw.2.2.2.2.2 (by decide)) hb hb.size⟩⟩⟩
      · refine obR_val (want_is hEA (g := 34) (x := true) (b := true) rfl rfl rfl rfl) (by kernel_rfl) (fun ph w' hp hpm hw => ?_)
        have e69 : Fr.tmps[69]? = some (.agg #[.int .i64 2, .int .i64 1]) := hEA.dst 37 _ 69 rfl rfl; have e70 : Fr.tmps[70]? = some (.agg #[.int .i64 2, .int .i64 1]) := hEA.dst 38 _ 70 rfl rfl; simp [execOp, e69, e70, go_sem]
      · refine obR_val (want_none rfl) (by kernel_rfl) (fun ph w' hp hpm hw => ?_)
        have e66 : Fr.tmps[66]? = some (.bool true) := hEA.dst 34 _ 66 rfl rfl; have e71 : Fr.tmps[71]? = some (.bool true) := hEA.dst 39 _ 71 rfl rfl; simp [execOp, e66, e71, go_sem]
      · refine obR_val (want_none rfl) (by kernel_rfl) (fun ph w' hp hpm hw => ?_)
        have e72 : Fr.tmps[72]? = some (.bool true) := hEA.dst 40 _ 72 rfl rfl; simp [execOp, e72, go_sem]
    · intro r w' hw
      simp only [laid, Act.put, List.setIfInBounds_toArray, List.set_cons_succ, List.set_cons_zero, List.getD_cons_succ, List.getD_cons_zero, Nat.zero_add, Nat.reduceAdd]
      go_wp2
      go_ret
      exact ⟨rfl, B.trans (hw.1.mono B.size)⟩

end Go.Proofs.Ytkmlnglmecjmeaa
