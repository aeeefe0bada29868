/- The document's examples of layer 8 hold (lodgelaw08.awake answers true), and memory below is left as it was. No condition. -/
import Derived.Test.YtbjefnboppfnaaaMemB
import Derived.Test.YtbjefnboppfnaaaMemH
import Derived.Test.YtbjefnboppfnaaaMemP
import Derived.Test.YtbjefnboppfnaaaPhaseT
namespace Go.Proofs.Ytbjefnboppfnaaa
open Go.RowKit
set_option linter.unusedVariables false

theorem new3 (w : World) (a b c : List Value) (t u v : TypeId) : ∃ W, ((w.alloc (.cells a.toArray t)).alloc (.cells b.toArray u)).alloc (.cells c.toArray v) = W ∧ Box W w.heap.size a ∧ Box W (w.heap.size + 1) b ∧ Box W (w.heap.size + 1 + 1) c ∧ Below w.heap.size w W := by
  have h1 := Box.new w a t
  have h2 := Box.new (w.alloc (.cells a.toArray t)) b u
  have h3 := Box.new ((w.alloc (.cells a.toArray t)).alloc (.cells b.toArray u)) c v
  have e1 : (w.alloc (.cells a.toArray t)).heap.size = w.heap.size + 1 := by simp
  have e2 : ((w.alloc (.cells a.toArray t)).alloc (.cells b.toArray u)).heap.size = w.heap.size + 1 + 1 := by simp
  have b1 := below_new (w.alloc (.cells a.toArray t)) (.cells b.toArray u)
  have b2 := below_new ((w.alloc (.cells a.toArray t)).alloc (.cells b.toArray u)) (.cells c.toArray v)
  rw [e1] at h2 b1
  rw [e2] at h3 b2
  exact ⟨_, rfl, (h1.below b1 (by omega)).below b2 (by omega), h2.below b2 (by omega), h3, (below_new2 w _ _).trans (b2.mono (by omega))⟩
theorem one_mem (w : World) (a b : Int) (t : TypeId) : Mems (w.alloc (.cells #[.int .i64 a, .int .i64 b] t)).heap.size (w.alloc (.cells #[.int .i64 a, .int .i64 b] t)) [(a, b)] [.slice (some ⟨w.heap.size, 0, none⟩) 1 1] := by
  refine ⟨_, 1, rfl, Nat.le_refl _, by decide, (fun h => by cases h), fun _ => ⟨w.heap.size, 0, rfl, by simp, fun i hi => ?_⟩⟩
  obtain rfl : i = 0 := by simp at hi; omega
  refine ⟨[.int .i64 a, .int .i64 b], rfl, fun j hj => ?_, rfl⟩
  rcases j with _ | _ | j
  · simp
  · simp
  · omega

set_option maxRecDepth 100000 in
set_option maxHeartbeats 8000000 in
theorem awake8_any (w : World) : Calls Try.prog 8 #[] w fun e W' => e = .returned (.bool true) ∧ Below w.heap.size w W' := by
  have q0 := tx_room (a := layM 2 1) (b := layV 3 2 1) (by decide)
  have q1 := tx_room (a := layM 2 1 ++ layV 3 2 1) (b := layV 0 0 0) (by decide)
  go_enter Try.func8, Try.ntmps8
  go_wp2_with fail
  obtain ⟨W0, hW0, bm, bv, B⟩ : ∃ W0, (w.alloc (.cells #[.int .i64 2, .int .i64 1] 24)).alloc (.cells #[.int .i64 3, .int .i64 2, .int .i64 1] 26) = W0 ∧ Box W0 w.heap.size [.int .i64 2, .int .i64 1] ∧ Box W0 (w.heap.size + 1) [.int .i64 3, .int .i64 2, .int .i64 1] ∧ Below w.heap.size w W0 := ⟨_, rfl, (Box.new w [.int .i64 2, .int .i64 1] _).next (below_new _ _), by have := Box.new (w.alloc (.cells #[.int .i64 2, .int .i64 1] 24)) [.int .i64 3, .int .i64 2, .int .i64 1] 26; simpa using this, below_new2 _ _ _⟩
  rw [hW0]
  clear hW0
  refine wp_region_tail ([_, _, _, _, _, _, _, _]) ([_, _, _]) (fun i => ([.agg #[.int .i64 2, .int .i64 1], .string (tx (layM 2 1)), .agg #[.int .i64 3, .int .i64 2, .int .i64 1], .string (tx (layV 3 2 1)), .string (tx (layM 2 1 ++ layV 3 2 1)), .agg #[.int .i64 0, .int .i64 0, .int .i64 0], .string (tx (layV 0 0 0)), .string (tx (layM 2 1 ++ layV 3 2 1 ++ layV 0 0 0))] : List Value).getD i undef) [1, 3, 6] [0, 0, 0, 1, 2, 0, 2, 3] (fun _ w' => Below W0.heap.size W0 w') (by kernel_rfl) (by kernel_rfl) (by kernel_rfl) (⟨rfl, rfl, rfl, Nat.le_refl _, fun _ _ => rfl⟩) ?_ ?_
  · refine Obs_of_endsT (by kernel_rfl) ?_
    intro A hE
    refine ⟨?_, ?_, ?_, ?_, ?_, ?_, ?_, ?_, trivial⟩
    · refine ob_val (want_none rfl) (by kernel_rfl) (fun ph w' hp hpm hw => ?_)
      have hc0 := (hw.cell (p := ⟨w.heap.size, 0, none⟩) bm.lt).trans (bm.c 0 _ rfl)
      have hc1 := (hw.cell (p := ⟨w.heap.size, 1, none⟩) bm.lt).trans (bm.c 1 _ rfl)
      have e1 : A.tmps[1]? = some (.pointer (some ⟨w.heap.size, 0, none⟩)) := at_outT hE (d := 1) (by kernel_rfl); simp [execOp, e1, hc0, hc1, go_sem]
    · refine ob_call (q := 0) (f := 19) (args := #[.agg #[.int .i64 2, .int .i64 1]]) (want_none rfl) (by kernel_rfl) (fun w' => by have e9 : A.tmps[9]? = some (.agg #[.int .i64 2, .int .i64 1]) := hE.dst 0 _ 9 (by decide) rfl rfl; simp [e9, go_sem]) ?_
      intro w' hw
      refine (print_any 2 1 w').mono ?_
      rintro e w2 ⟨rfl, hb⟩
      exact ⟨rfl, hw.trans (hb.mono hw.size)⟩
    · refine ob_val (want_none rfl) (by kernel_rfl) (fun ph w' hp hpm hw => ?_)
      have hc0 := (hw.cell (p := ⟨w.heap.size + 1, 0, none⟩) bv.lt).trans (bv.c 0 _ rfl)
      have hc1 := (hw.cell (p := ⟨w.heap.size + 1, 1, none⟩) bv.lt).trans (bv.c 1 _ rfl)
      have hc2 := (hw.cell (p := ⟨w.heap.size + 1, 2, none⟩) bv.lt).trans (bv.c 2 _ rfl)
      have e2 : A.tmps[2]? = some (.pointer (some ⟨w.heap.size + 1, 0, none⟩)) := at_outT hE (d := 2) (by kernel_rfl); simp [execOp, e2, hc0, hc1, hc2, go_sem]
    · refine ob_call (q := 1) (f := 21) (args := #[.agg #[.int .i64 3, .int .i64 2, .int .i64 1]]) (want_none rfl) (by kernel_rfl) (fun w' => by have e11 : A.tmps[11]? = some (.agg #[.int .i64 3, .int .i64 2, .int .i64 1]) := hE.dst 2 _ 11 (by decide) rfl rfl; simp [e11, go_sem]) ?_
      intro w' hw
      refine (printId_any 3 2 1 w').mono ?_
      rintro e w2 ⟨rfl, hb⟩
      exact ⟨rfl, hw.trans (hb.mono hw.size)⟩
    · refine ob_val (want_none rfl) (by kernel_rfl) (fun ph w' hp hpm hw => ?_)
      have e10 : A.tmps[10]? = some (.string (tx (layM 2 1))) := hE.dst 1 _ 10 (by decide) rfl rfl; have e12 : A.tmps[12]? = some (.string (tx (layV 3 2 1))) := hE.dst 3 _ 12 (by decide) rfl rfl; simp [execOp, e10, e12, q0, tx_app, go_sem]
    · refine ob_val (want_none rfl) (by kernel_rfl) (fun ph w' hp hpm hw => ?_)
      simp [execOp, go_sem]
    · refine ob_call (q := 2) (f := 21) (args := #[.agg #[.int .i64 0, .int .i64 0, .int .i64 0]]) (want_none rfl) (by kernel_rfl) (fun w' => by have e14 : A.tmps[14]? = some (.agg #[.int .i64 0, .int .i64 0, .int .i64 0]) := hE.dst 5 _ 14 (by decide) rfl rfl; simp [e14, go_sem]) ?_
      intro w' hw
      refine (printId_any 0 0 0 w').mono ?_
      rintro e w2 ⟨rfl, hb⟩
      exact ⟨rfl, hw.trans (hb.mono hw.size)⟩
    · refine ob_val (want_none rfl) (by kernel_rfl) (fun ph w' hp hpm hw => ?_)
      have e13 : A.tmps[13]? = some (.string (tx (layM 2 1 ++ layV 3 2 1))) := hE.dst 4 _ 13 (by decide) rfl rfl; have e15 : A.tmps[15]? = some (.string (tx (layV 0 0 0))) := hE.dst 6 _ 15 (by decide) rfl rfl; simp [execOp, e13, e15, q1, tx_app, go_sem]
  · intro w' hw
    simp only [laid, Act.put, List.setIfInBounds_toArray, List.set_cons_succ, List.set_cons_zero, List.getD_cons_succ, List.getD_cons_zero, Nat.zero_add, Nat.reduceAdd]
    have B1 := B.trans (hw.mono B.size)
    replace bm := bm.next hw
    replace bv := bv.next hw
    clear hw B
    go_wp2_with fail
    rw [List.append_assoc]
    obtain ⟨W1, hW1, hA, hgM⟩ : ∃ W1, w'.alloc (.cells #[.string (tx (layM 2 1 ++ (layV 3 2 1 ++ layV 0 0 0))), .bool false] 37) = W1 ∧ At W1 w'.heap.size 100 (some (layM 2 1 ++ (layV 3 2 1 ++ layV 0 0 0))) ∧ Below w'.heap.size w' W1 := ⟨_, rfl, ⟨leftAt_new _ _ _ _ rfl, by decide⟩, below_new _ _⟩
    rw [hW1]
    have hl0 : w.heap.size ≤ w'.heap.size := B1.size
    have ne0 : w.heap.size ≠ w'.heap.size := by have := bm.lt; omega
    have ne1 : w.heap.size + 1 ≠ w'.heap.size := by have := bv.lt; omega
    replace bm := bm.next hgM
    replace bv := bv.next hgM
    replace B1 := B1.trans (hgM.mono hl0)
    clear hW1 hgM
    generalize w'.heap.size = g at *
    have hx0 := mem_back (a := 2) (b := 1) (by decide) (layV 3 2 1 ++ layV 0 0 0)
    have c0 := read_any g 100 (some (layM 2 1 ++ (layV 3 2 1 ++ layV 0 0 0))) W1 hA (by decide)
    rw [hx0.1, hx0.2] at c0
    refine c0.mono ?_
    clear c0 hx0 hA
    rintro e W2 ⟨rfl, hA, T⟩
    replace B1 := B1.trans (T.below hl0 B1.size)
    replace bm := bm.turn T bm.lt ne0
    replace bv := bv.turn T bv.lt ne1
    clear T
    go_wp2_with fail
    have hx1 := id_back (a := 3) (b := 2) (c := 1) (by decide) (layV 0 0 0)
    have c1 := readId_any g 100 (some (layV 3 2 1 ++ layV 0 0 0)) W2 hA (by decide)
    rw [hx1.1, hx1.2] at c1
    refine c1.mono ?_
    clear c1 hx1 hA
    rintro e W3 ⟨rfl, hA, T⟩
    replace B1 := B1.trans (T.below hl0 B1.size)
    replace bm := bm.turn T bm.lt ne0
    replace bv := bv.turn T bv.lt ne1
    clear T
    go_wp2_with fail
    have hx2 := id_back (a := 0) (b := 0) (c := 0) (by decide) []
    rw [List.append_nil] at hx2
    have c2 := readId_any g 100 (some (layV 0 0 0)) W3 hA (by decide)
    rw [hx2.1, hx2.2] at c2
    refine c2.mono ?_
    clear c2 hx2 hA
    rintro e W4 ⟨rfl, hA, T⟩
    replace B1 := B1.trans (T.below hl0 B1.size)
    replace bm := bm.turn T bm.lt ne0
    replace bv := bv.turn T bv.lt ne1
    clear T
    have zlt := bm.lt
    have zlt2 : w.heap.size < W4.heap.size + 1 := by omega
    have zlt3 : w.heap.size < W4.heap.size + 1 + 1 := by omega
    have zlt1 := bv.lt
    have glt := hA.lt
    have bm0 := bm.c 0 _ rfl
    have bm1 := bm.c 1 _ rfl
    go_wp2_with fail
    obtain ⟨W5, hW5, ba, bb, bc, hgM⟩ : ∃ W5, ((W4.alloc (.cells #[.int .i64 2, .int .i64 1] 24)).alloc (.cells #[.int .i64 3, .int .i64 2, .int .i64 1] 26)).alloc (.cells #[.int .i64 0, .int .i64 0, .int .i64 0] 26) = W5 ∧ Box W5 W4.heap.size [.int .i64 2, .int .i64 1] ∧ Box W5 (W4.heap.size + 1) [.int .i64 3, .int .i64 2, .int .i64 1] ∧ Box W5 (W4.heap.size + 1 + 1) [.int .i64 0, .int .i64 0, .int .i64 0] ∧ Below W4.heap.size W4 W5 := new3 W4 [.int .i64 2, .int .i64 1] [.int .i64 3, .int .i64 2, .int .i64 1] [.int .i64 0, .int .i64 0, .int .i64 0] _ _ _
    rw [hW5]
    replace bm := bm.next hgM
    replace bv := bv.next hgM
    replace hA := hA.next hgM
    replace B1 := B1.trans (hgM.mono B1.size)
    clear hW5 hgM zlt zlt2 zlt3 zlt1 glt bm0 bm1
    generalize W4.heap.size = h at *
    refine (Calls.mono (R := fun e W' => e = .returned (.bool true) ∧ Below W5.heap.size W5 W') (mright_any 2 1 W5) ?_)
    rintro e W6 ⟨rfl, hb⟩
    replace bm := bm.next hb
    replace bv := bv.next hb
    replace ba := ba.next hb
    replace bb := bb.next hb
    replace bc := bc.next hb
    replace hA := hA.next hb
    replace B1 := B1.trans (hb.mono B1.size)
    clear hb
    go_wp2_with fail
    refine (Calls.mono (R := fun e W' => e = .returned (.bool false) ∧ Below W6.heap.size W6 W') (mright_any 0 0 W6) ?_)
    rintro e W7 ⟨rfl, hb⟩
    replace bm := bm.next hb
    replace bv := bv.next hb
    replace ba := ba.next hb
    replace bb := bb.next hb
    replace bc := bc.next hb
    replace hA := hA.next hb
    replace B1 := B1.trans (hb.mono B1.size)
    clear hb
    have bm0 := bm.c 0 _ rfl
    have bm1 := bm.c 1 _ rfl
    go_wp2_with fail
    refine (Calls.mono (R := fun e W' => e = .returned (.bool true) ∧ Below W7.heap.size W7 W') (less_any 1 9 2 1 W7) ?_)
    rintro e W8 ⟨rfl, hb⟩
    replace bm := bm.next hb
    replace bv := bv.next hb
    replace ba := ba.next hb
    replace bb := bb.next hb
    replace bc := bc.next hb
    replace hA := hA.next hb
    replace B1 := B1.trans (hb.mono B1.size)
    clear hb bm0 bm1
    have bm0 := bm.c 0 _ rfl
    have bm1 := bm.c 1 _ rfl
    go_wp2_with fail
    refine (Calls.mono (R := fun e W' => e = .returned (.bool false) ∧ Below W8.heap.size W8 W') (less_any 2 1 2 1 W8) ?_)
    rintro e W9 ⟨rfl, hb⟩
    replace bm := bm.next hb
    replace bv := bv.next hb
    replace ba := ba.next hb
    replace bb := bb.next hb
    replace bc := bc.next hb
    replace hA := hA.next hb
    replace B1 := B1.trans (hb.mono B1.size)
    clear hb bm0 bm1
    have bm0 := bm.c 0 _ rfl
    have bm1 := bm.c 1 _ rfl
    have zlt := bm.lt
    go_wp2_with fail
    obtain ⟨W10, hW, hms, hgM⟩ : ∃ W10, W9.alloc (.cells #[.int .i64 2, .int .i64 1] 24) = W10 ∧ Mems W10.heap.size W10 [(2, 1)] [.slice (some ⟨W9.heap.size, 0, none⟩) 1 1] ∧ Below W9.heap.size W9 W10 := ⟨_, rfl, one_mem _ _ _ _, below_new _ _⟩
    rw [hW]
    replace bm := bm.next hgM
    replace bv := bv.next hgM
    replace ba := ba.next hgM
    replace bb := bb.next hgM
    replace bc := bc.next hgM
    replace hA := hA.next hgM
    replace B1 := B1.trans (hgM.mono B1.size)
    clear hW hgM
    have hc := has_any _ [(2, 1)] 2 1 W10 hms
    refine (Calls.mono (R := fun e W' => e = .returned (.bool true) ∧ Below W10.heap.size W10 W') hc ?_)
    rintro e W11 ⟨rfl, hb⟩
    replace bm := bm.next hb
    replace bv := bv.next hb
    replace ba := ba.next hb
    replace bb := bb.next hb
    replace bc := bc.next hb
    replace hA := hA.next hb
    replace B1 := B1.trans (hb.mono B1.size)
    clear hb bm0 bm1 hms hc zlt
    have bc0 := bc.c 0 _ rfl
    have bc1 := bc.c 1 _ rfl
    have bc2 := bc.c 2 _ rfl
    go_wp2_with fail
    refine (Calls.mono (R := fun e W' => e = .returned (.bool true) ∧ Below W11.heap.size W11 W') (none_any 0 0 0 W11) ?_)
    rintro e W12 ⟨rfl, hb⟩
    replace bm := bm.next hb
    replace bv := bv.next hb
    replace ba := ba.next hb
    replace bb := bb.next hb
    replace bc := bc.next hb
    replace hA := hA.next hb
    replace B1 := B1.trans (hb.mono B1.size)
    clear hb bc0 bc1 bc2
    have bv0 := bv.c 0 _ rfl
    have bv1 := bv.c 1 _ rfl
    have bv2 := bv.c 2 _ rfl
    go_wp2_with fail
    refine (Calls.mono (R := fun e W' => e = .returned (.bool false) ∧ Below W12.heap.size W12 W') (none_any 3 2 1 W12) ?_)
    rintro e W13 ⟨rfl, hb⟩
    replace bm := bm.next hb
    replace bv := bv.next hb
    replace ba := ba.next hb
    replace bb := bb.next hb
    replace bc := bc.next hb
    replace hA := hA.next hb
    replace B1 := B1.trans (hb.mono B1.size)
    clear hb bv0 bv1 bv2
    have bv0 := bv.c 0 _ rfl
    have bv1 := bv.c 1 _ rfl
    have bv2 := bv.c 2 _ rfl
    go_wp2_with fail
    refine (Calls.mono (R := fun e W' => e = .returned (.bool true) ∧ Below W13.heap.size W13 W') (id_any 3 2 1 W13) ?_)
    rintro e W14 ⟨rfl, hb⟩
    replace bm := bm.next hb
    replace bv := bv.next hb
    replace ba := ba.next hb
    replace bb := bb.next hb
    replace bc := bc.next hb
    replace hA := hA.next hb
    replace B1 := B1.trans (hb.mono B1.size)
    clear hb bv0 bv1 bv2
    have bc0 := bc.c 0 _ rfl
    have bc1 := bc.c 1 _ rfl
    have bc2 := bc.c 2 _ rfl
    go_wp2_with fail
    refine (Calls.mono (R := fun e W' => e = .returned (.bool true) ∧ Below W14.heap.size W14 W') (id_any 0 0 0 W14) ?_)
    rintro e W15 ⟨rfl, hb⟩
    replace bm := bm.next hb
    replace bv := bv.next hb
    replace ba := ba.next hb
    replace bb := bb.next hb
    replace bc := bc.next hb
    replace hA := hA.next hb
    replace B1 := B1.trans (hb.mono B1.size)
    clear hb bc0 bc1 bc2
    go_wp2_with fail
    refine (Calls.mono (R := fun e W' => e = .returned (.bool false) ∧ Below W15.heap.size W15 W') (id_any 1 0 0 W15) ?_)
    rintro e W16 ⟨rfl, hb⟩
    replace bm := bm.next hb
    replace bv := bv.next hb
    replace ba := ba.next hb
    replace bb := bb.next hb
    replace bc := bc.next hb
    replace hA := hA.next hb
    replace B1 := B1.trans (hb.mono B1.size)
    clear hb
    have ba0 := ba.c 0 _ rfl
    have ba1 := ba.c 1 _ rfl
    have bm0 := bm.c 0 _ rfl
    have bm1 := bm.c 1 _ rfl
    have bb0 := bb.c 0 _ rfl
    have bb1 := bb.c 1 _ rfl
    have bb2 := bb.c 2 _ rfl
    have bv0 := bv.c 0 _ rfl
    have bv1 := bv.c 1 _ rfl
    have bv2 := bv.c 2 _ rfl
    go_wp2_with fail
    refine (leftDone_st g 100 _ W16 hA).mono ?_
    rintro e w2 ⟨rfl, rfl⟩
    go_wp2
    go_ret
    exact ⟨rfl, B1⟩
end Go.Proofs.Ytbjefnboppfnaaa
