/- The document's examples of layer 9 hold (lodgelaw09.awake answers true), and memory below is left as it was. No condition. -/
import Derived.Test.YtgnebmandifhiaaTreeV
import Derived.Test.YtgnebmandifhiaaTreeX
import Derived.Test.YtgnebmandifhiaaTreeP
import Derived.Test.YtgnebmandifhiaaTreeD
namespace Go.Proofs.Ytgnebmandifhiaa
open Go Go.RowKit
set_option linter.unusedVariables false

def exA : List Sp := [(false, 0, 0), (true, 0, 1), (true, 1, 1)]
def exB : List Sp := [(true, 2, 1)]
def exL : List Sp := [(false, 0, 0), (false, 0, 0), (true, 0, 1), (true, 1, 1), (true, 2, 1)]
def exC : List Sp := [(false, 0, 0), (true, 1, 1), (true, 1, 1)]
theorem exL_flat : exL = flat (.inner 0 0 (.inner 0 0 (.leaf 0 1) (.leaf 1 1)) (.leaf 2 1)) := rfl
theorem exL_ok : okT exL = true := by decide +kernel
theorem exL_cut : okT (exL.take 4) = false := by decide +kernel
theorem exC_no : okT exC = false := by decide +kernel
theorem exL_e0 : endI exL 0 = 5 := by decide +kernel
theorem exL_e1 : endI exL 1 = 4 := by decide +kernel
theorem exL_e9 : endI exL 9 = -1 := by decide +kernel
theorem spots_nil (w : World) : Spots w.heap.size w [] [.slice none 0 0] := own_spots (World.ownsRow_nil _ w.heap.size _ _)
theorem spots_len {n : Nat} {w : World} {xs : List Sp} {v : Value} (h : Spots n w xs [v]) (m : Nat) (hm : xs.length = m) : ∃ A cap, v = .slice A m cap ∧ m ≤ cap ∧ cap ≤ 9223372036854775807 := by
  obtain ⟨A, cap, e, h1, h2, _⟩ := spots_at h
  subst hm
  exact ⟨A, cap, e, h1, Nat.le_trans h2 (by decide)⟩
theorem mems_len {n : Nat} {w : World} {xs : List (Int × Int)} {v : Value} (h : Mems n w xs [v]) (m : Nat) (hm : xs.length = m) : ∃ A cap, v = .slice A m cap ∧ m ≤ cap ∧ cap ≤ 9223372036854775807 := by
  obtain ⟨A, cap, e, h1, h2, _⟩ := mems_at h
  subst hm
  exact ⟨A, cap, e, h1, Nat.le_trans h2 (by decide)⟩
/-- The first j spots. -/
theorem cut_to {n : Nat} {w : World} {xs : List Sp} {A : Option Addr} {m cap : Nat} (h : Spots n w xs [.slice A m cap]) (hm : xs.length = m) (hc : m ≤ cap) (j : Nat) (hj : j ≤ m) :
    ∃ A', (∀ wx, (Instr.slice 22 (.slice A m cap) none (some (.int .i64 (j : Int))) none).run Try.prog wx = .ok (.slice A' j cap) wx) ∧ Spots n w (xs.take j) [.slice A' j cap] := by
  subst hm
  have hS := slice_cut h 0 j (Nat.zero_le _) hj
  obtain ⟨A', e⟩ := sliced_is A 0 j cap 3
  rw [Nat.sub_zero, Nat.sub_zero] at e
  refine ⟨A', fun wx => ?_, ?_⟩
  · rw [run_slice_h _ _ _ _ _ Try.underlying22 _ _ (by omega) (by omega)]
    have es : (sizeOf (Try.prog.elem 22)).run Try.prog wx = .ok 3 wx := Try.sizeOf46 wx
    rw [es]
    simp only [Result.andThen, Int.toNat_natCast, e]
  · rw [e, Nat.sub_zero, List.drop_zero] at hS
    exact hS

set_option maxRecDepth 100000 in
set_option maxHeartbeats 16000000 in
theorem awake9_any (w : World) : Calls Try.prog 8 #[] w fun e W' => e = .returned (.bool true) ∧ Below w.heap.size w W' := by
  go_enter Try.func8, Try.ntmps8
  go_wp2_with fail
  have B : Below w.heap.size w w := Below.refl _ _
  refine (lawLeaf_any 0 w).mono ?_
  rintro e W1 ⟨v0, rfl, h0, hb⟩
  replace B := B.trans (hb.mono B.size)
  clear hb
  have H0 := Lib.hid h0
  clear h0
  go_wp2_with fail
  refine (lawLeaf_any 1 W1).mono ?_
  rintro e W2 ⟨v1, rfl, h1, hb⟩
  replace H0 := Lib.hid (keeps_spots _ _ _ _ _ _ H0.out hb hb.size)
  replace B := B.trans (hb.mono B.size)
  clear hb
  have H1 := Lib.hid h1
  clear h1
  go_wp2_with fail
  refine (join_both v0 v1 [(true, 0, 1)] [(true, 1, 1)] W2 H0.out H1.out (by decide) (by decide) (by decide)).mono ?_
  rintro e W3 ⟨v2, rfl, h2, hb⟩
  replace H0 := Lib.hid (keeps_spots _ _ _ _ _ _ H0.out hb hb.size)
  replace H1 := Lib.hid (keeps_spots _ _ _ _ _ _ H1.out hb hb.size)
  replace B := B.trans (hb.mono B.size)
  clear hb
  have H2 := Lib.hid h2
  clear h2
  go_wp2_with fail
  clear H0 H1
  refine (lawLeaf_any 2 W3).mono ?_
  rintro e W4 ⟨v3, rfl, h3, hb⟩
  replace H2 := Lib.hid (keeps_spots _ _ _ _ _ _ H2.out hb hb.size)
  replace B := B.trans (hb.mono B.size)
  clear hb
  have H3 := Lib.hid h3
  clear h3
  go_wp2_with fail
  refine (join_both v2 v3 exA [(true, 2, 1)] W4 H2.out H3.out (by decide) (by decide) (by decide)).mono ?_
  rintro e W5 ⟨vl, rfl, hl, hb⟩
  replace H2 := Lib.hid (keeps_spots _ _ _ _ _ _ H2.out hb hb.size)
  replace H3 := Lib.hid (keeps_spots _ _ _ _ _ _ H3.out hb hb.size)
  replace B := B.trans (hb.mono B.size)
  clear hb
  replace hl : Spots W5.heap.size W5 exL [vl] := hl
  have HL := Lib.hid hl
  clear hl
  go_wp2_with fail
  clear H2 H3
  refine (halves_inner 0 0 (.inner 0 0 (.leaf 0 1) (.leaf 1 1)) (.leaf 2 1) vl W5 (by rw [← exL_flat]; exact HL.out) (by decide)).mono ?_
  rintro e W6 ⟨va, vb, rfl, ha, hb2, hb⟩
  replace HL := Lib.hid (keeps_spots _ _ _ _ _ _ HL.out hb hb.size)
  replace B := B.trans (hb.mono B.size)
  clear hb
  have HA := Lib.hid ha
  clear ha
  have HB := Lib.hid hb2
  clear hb2
  go_wp2_with fail
  refine (halves_leaf 2 1 vb W6 HB.out).mono ?_
  rintro e W7 ⟨rfl, hb⟩
  replace HL := Lib.hid (keeps_spots _ _ _ _ _ _ HL.out hb hb.size)
  replace HA := Lib.hid (keeps_spots _ _ _ _ _ _ HA.out hb hb.size)
  replace HB := Lib.hid (keeps_spots _ _ _ _ _ _ HB.out hb hb.size)
  replace B := B.trans (hb.mono B.size)
  clear hb
  go_wp2_with fail
  refine (printT_any vl exL W7 HL.out (by decide)).mono ?_
  rintro e W8 ⟨rfl, hb⟩
  replace HL := Lib.hid (keeps_spots _ _ _ _ _ _ HL.out hb hb.size)
  replace HA := Lib.hid (keeps_spots _ _ _ _ _ _ HA.out hb hb.size)
  replace HB := Lib.hid (keeps_spots _ _ _ _ _ _ HB.out hb hb.size)
  replace B := B.trans (hb.mono B.size)
  clear hb
  go_wp2_with fail
  have hA0 := leftAt_new W8 (tx (layTr exL)) _ 37 rfl
  have hb := below_new W8 (.cells #[.string (tx (layTr exL)), .bool false] 37)
  obtain ⟨g, hg⟩ : ∃ g, W8.heap.size = g := ⟨_, rfl⟩
  rw [hg] at hA0
  try rw [hg]
  generalize W8.alloc (.cells #[.string (tx (layTr exL)), .bool false] 37) = W9 at *
  replace HL := Lib.hid (keeps_spots _ W8.heap.size _ _ _ _ HL.out hb (Nat.le_refl _))
  replace HA := Lib.hid (keeps_spots _ W8.heap.size _ _ _ _ HA.out hb (Nat.le_refl _))
  replace HB := Lib.hid (keeps_spots _ W8.heap.size _ _ _ _ HB.out hb (Nat.le_refl _))
  have hgB : w.heap.size ≤ W8.heap.size := B.size
  replace B := B.trans (hb.mono B.size)
  have hgw : w.heap.size ≤ g := by have := hb; rw [← hg]; exact hgB
  have hA : At W9 g (layTr exL).length (some (layTr exL)) := ⟨hA0, Nat.le_refl _⟩
  clear hA0 hb hgB
  have hTB := tree_back exL_ok []
  rw [List.append_nil] at hTB
  refine (readT_any g _ _ W9 hA (by decide +kernel)).mono ?_
  rintro e W10 ⟨v9, rfl, h9, hA2, T⟩
  rw [hTB.1] at hA2
  rw [hTB.2] at h9
  have hgl : g < W9.heap.size := hA.lt
  have hbt : Below W8.heap.size W9 W10 := T.below (by omega) (by omega)
  replace HL := Lib.hid (grow_spots (m := W10.heap.size) (keeps_spots _ W8.heap.size _ _ _ _ HL.out hbt (Nat.le_refl _)) (by have := T.size; omega))
  replace HA := Lib.hid (grow_spots (m := W10.heap.size) (keeps_spots _ W8.heap.size _ _ _ _ HA.out hbt (Nat.le_refl _)) (by have := T.size; omega))
  replace HB := Lib.hid (grow_spots (m := W10.heap.size) (keeps_spots _ W8.heap.size _ _ _ _ HB.out hbt (Nat.le_refl _)) (by have := T.size; omega))
  replace B := B.trans (T.below hgw B.size)
  clear hA T hbt hTB hgl
  have hA := hA2
  clear hA2
  have H9 := Lib.hid h9
  clear h9
  obtain ⟨A, cap, rfl, hlc, hcm⟩ := spots_len HL.out 5 rfl
  obtain ⟨Aa, capa, rfl, hlca, hcma⟩ := spots_len HA.out 3 rfl
  obtain ⟨Ab, capb, rfl, hlcb, hcmb⟩ := spots_len HB.out 1 rfl
  go_wp2_with fail
  refine (end_any _ exL 0 W10 HL.out (by decide)).mono ?_
  rintro e W11 ⟨rfl, hb⟩
  replace HL := Lib.hid (keeps_spots _ _ _ _ _ _ HL.out hb hb.size)
  replace HA := Lib.hid (keeps_spots _ _ _ _ _ _ HA.out hb hb.size)
  replace HB := Lib.hid (keeps_spots _ _ _ _ _ _ HB.out hb hb.size)
  replace H9 := Lib.hid (keeps_spots _ _ _ _ _ _ H9.out hb hb.size)
  replace hA := hA.next hb
  replace B := B.trans (hb.mono B.size)
  clear hb
  rw [exL_e0]
  go_wp2_with fail
  refine (end_any _ exL 1 W11 HL.out (by decide)).mono ?_
  rintro e W12 ⟨rfl, hb⟩
  replace HL := Lib.hid (keeps_spots _ _ _ _ _ _ HL.out hb hb.size)
  replace HA := Lib.hid (keeps_spots _ _ _ _ _ _ HA.out hb hb.size)
  replace HB := Lib.hid (keeps_spots _ _ _ _ _ _ HB.out hb hb.size)
  replace H9 := Lib.hid (keeps_spots _ _ _ _ _ _ H9.out hb hb.size)
  replace hA := hA.next hb
  replace B := B.trans (hb.mono B.size)
  clear hb
  rw [exL_e1]
  go_wp2_with fail
  refine (end_any _ exL 9 W12 HL.out (by decide)).mono ?_
  rintro e W13 ⟨rfl, hb⟩
  replace HL := Lib.hid (keeps_spots _ _ _ _ _ _ HL.out hb hb.size)
  replace HA := Lib.hid (keeps_spots _ _ _ _ _ _ HA.out hb hb.size)
  replace HB := Lib.hid (keeps_spots _ _ _ _ _ _ HB.out hb hb.size)
  replace H9 := Lib.hid (keeps_spots _ _ _ _ _ _ H9.out hb hb.size)
  replace hA := hA.next hb
  replace B := B.trans (hb.mono B.size)
  clear hb
  rw [exL_e9]
  go_wp2_with fail
  refine (leaves_any _ exL W13 HL.out (by decide)).mono ?_
  rintro e W14 ⟨vm, rfl, hm, hb⟩
  replace HL := Lib.hid (keeps_spots _ _ _ _ _ _ HL.out hb hb.size)
  replace HA := Lib.hid (keeps_spots _ _ _ _ _ _ HA.out hb hb.size)
  replace HB := Lib.hid (keeps_spots _ _ _ _ _ _ HB.out hb hb.size)
  replace H9 := Lib.hid (keeps_spots _ _ _ _ _ _ H9.out hb hb.size)
  replace hA := hA.next hb
  replace B := B.trans (hb.mono B.size)
  clear hb
  obtain ⟨Am, capm, rfl, hlcm, hcmm⟩ := mems_len hm 3 rfl
  clear hm
  go_wp2_with fail
  refine (right_any _ exL W14 HL.out (by decide)).mono ?_
  rintro e W15 ⟨rfl, hb⟩
  replace HL := Lib.hid (keeps_spots _ _ _ _ _ _ HL.out hb hb.size)
  replace HA := Lib.hid (keeps_spots _ _ _ _ _ _ HA.out hb hb.size)
  replace HB := Lib.hid (keeps_spots _ _ _ _ _ _ HB.out hb hb.size)
  replace H9 := Lib.hid (keeps_spots _ _ _ _ _ _ H9.out hb hb.size)
  replace hA := hA.next hb
  replace B := B.trans (hb.mono B.size)
  clear hb
  rw [exL_ok]
  obtain ⟨A4, hr4, h4⟩ := cut_to HL.out rfl hlc 4 (by decide)
  replace hr4 : ∀ wx, (Instr.slice 22 (.slice A 5 cap) none (some (.int .i64 4)) none).run Try.prog wx = .ok (.slice A4 4 cap) wx := hr4
  have H4 := Lib.hid h4
  clear h4
  go_wp2_with fail
  refine (right_any _ (exL.take 4) W15 H4.out (by decide)).mono ?_
  rintro e W16 ⟨rfl, hb⟩
  replace HL := Lib.hid (keeps_spots _ _ _ _ _ _ HL.out hb hb.size)
  replace HA := Lib.hid (keeps_spots _ _ _ _ _ _ HA.out hb hb.size)
  replace HB := Lib.hid (keeps_spots _ _ _ _ _ _ HB.out hb hb.size)
  replace H9 := Lib.hid (keeps_spots _ _ _ _ _ _ H9.out hb hb.size)
  replace H4 := Lib.hid (keeps_spots _ _ _ _ _ _ H4.out hb hb.size)
  replace hA := hA.next hb
  replace B := B.trans (hb.mono B.size)
  clear hb
  rw [exL_cut]
  clear hr4
  go_wp2_with fail
  clear H4
  refine (right_any _ [] W16 (spots_nil W16) (by decide)).mono ?_
  rintro e W17 ⟨rfl, hb⟩
  replace HL := Lib.hid (keeps_spots _ _ _ _ _ _ HL.out hb hb.size)
  replace HA := Lib.hid (keeps_spots _ _ _ _ _ _ HA.out hb hb.size)
  replace HB := Lib.hid (keeps_spots _ _ _ _ _ _ HB.out hb hb.size)
  replace H9 := Lib.hid (keeps_spots _ _ _ _ _ _ H9.out hb hb.size)
  replace hA := hA.next hb
  replace B := B.trans (hb.mono B.size)
  clear hb
  rw [okT_nil]
  go_wp2_with fail
  refine (height_flat (.inner 0 0 (.inner 0 0 (.leaf 0 1) (.leaf 1 1)) (.leaf 2 1)) _ W17 (by rw [← exL_flat]; exact HL.out) (by decide)).mono ?_
  rintro e W18 ⟨rfl, hb⟩
  replace HL := Lib.hid (keeps_spots _ _ _ _ _ _ HL.out hb hb.size)
  replace HA := Lib.hid (keeps_spots _ _ _ _ _ _ HA.out hb hb.size)
  replace HB := Lib.hid (keeps_spots _ _ _ _ _ _ HB.out hb hb.size)
  replace H9 := Lib.hid (keeps_spots _ _ _ _ _ _ H9.out hb hb.size)
  replace hA := hA.next hb
  replace B := B.trans (hb.mono B.size)
  clear hb
  rw [show ht (.inner 0 0 (.inner 0 0 (.leaf 0 1) (.leaf 1 1)) (.leaf 2 1)) = 2 from rfl]
  go_wp2_with fail
  refine (height_nil _ W18 (spots_nil W18)).mono ?_
  rintro e W19 ⟨rfl, rfl⟩
  go_wp2_with fail
  refine (sameS_any v9 _ exL exL W18 H9.out HL.out (by decide)).mono ?_
  rintro e W19 ⟨rfl, hb⟩
  replace HL := Lib.hid (keeps_spots _ _ _ _ _ _ HL.out hb hb.size)
  replace HA := Lib.hid (keeps_spots _ _ _ _ _ _ HA.out hb hb.size)
  replace HB := Lib.hid (keeps_spots _ _ _ _ _ _ HB.out hb hb.size)
  replace H9 := Lib.hid (keeps_spots _ _ _ _ _ _ H9.out hb hb.size)
  replace hA := hA.next hb
  replace B := B.trans (hb.mono B.size)
  clear hb
  rw [show decide (exL = exL) = true from decide_eq_true rfl]
  go_wp2_with fail
  refine (leftDone_st g _ (some []) W19 hA).mono ?_
  rintro e W20 ⟨rfl, rfl⟩
  rw [show doneOf (some []) = true from rfl]
  go_wp2_with fail
  clear HL HA HB H9 hA
  refine (lawLeaf_any 1 W19).mono ?_
  rintro e W20 ⟨v10, rfl, h10, hb⟩
  replace B := B.trans (hb.mono B.size)
  clear hb
  have H10 := Lib.hid h10
  clear h10
  go_wp2_with fail
  refine (lawLeaf_any 1 W20).mono ?_
  rintro e W21 ⟨v11, rfl, h11, hb⟩
  replace H10 := Lib.hid (keeps_spots _ _ _ _ _ _ H10.out hb hb.size)
  replace B := B.trans (hb.mono B.size)
  clear hb
  have H11 := Lib.hid h11
  clear h11
  go_wp2_with fail
  refine (join_both v10 v11 [(true, 1, 1)] [(true, 1, 1)] W21 H10.out H11.out (by decide) (by decide) (by decide)).mono ?_
  rintro e W22 ⟨v12, rfl, h12, hb⟩
  replace H10 := Lib.hid (keeps_spots _ _ _ _ _ _ H10.out hb hb.size)
  replace H11 := Lib.hid (keeps_spots _ _ _ _ _ _ H11.out hb hb.size)
  replace B := B.trans (hb.mono B.size)
  clear hb
  have H12 := Lib.hid h12
  clear h12
  go_wp2_with fail
  refine (right_any v12 exC W22 H12.out (by decide)).mono ?_
  rintro e W23 ⟨rfl, hb⟩
  replace H10 := Lib.hid (keeps_spots _ _ _ _ _ _ H10.out hb hb.size)
  replace H11 := Lib.hid (keeps_spots _ _ _ _ _ _ H11.out hb hb.size)
  replace H12 := Lib.hid (keeps_spots _ _ _ _ _ _ H12.out hb hb.size)
  replace B := B.trans (hb.mono B.size)
  clear hb
  rw [exC_no]
  go_wp2
  go_ret
  exact ⟨rfl, B⟩

end Go.Proofs.Ytgnebmandifhiaa
