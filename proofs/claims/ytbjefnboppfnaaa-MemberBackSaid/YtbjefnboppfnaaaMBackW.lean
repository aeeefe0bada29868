/- lodgelaw08.MemberBack answers true, whatever member and whatever id come in, and leaves memory below as it was. No condition. -/
import Derived.Deep.CutBlock
import Derived.Deep.DeepCutAuto
import Derived.Test.YtbjefnboppfnaaaMTellsW
import Derived.Test.YtbjefnboppfnaaaPhaseL
namespace Go.Proofs.Ytbjefnboppfnaaa
open Go.RowKit
set_option linter.unusedVariables false

theorem three_m (a b : Int) : ∃ (sm : Option (List UInt8)) (x y : Int), (∀ (w : World) (g : Nat), At w g 100 (some (layM a b)) → Calls Try.prog 25 #[.pointer (some ⟨g, 0, none⟩)] w fun e W' => e = .returned (vM x y) ∧ At W' g 100 sm ∧ Turn g w.heap.size w W') ∧
    ((okM a b = true ∧ some [] = sm ∧ a = x ∧ b = y) ∨ (okM a b = false ∧ none = sm ∧ 0 = x ∧ 0 = y) ∨ (okM a b = false ∧ (∃ r, some r = sm) ∧ okM x y = true)) := by
  refine ⟨memSt (some (layM a b)), (memOf (some (layM a b))).1, (memOf (some (layM a b))).2, fun w g h => read_any g 100 _ w h (by decide), ?_⟩
  cases hk : okM a b with
  | true =>
    have h := mem_back hk []
    rw [List.append_nil] at h
    rw [h.1, h.2]
    exact Or.inl ⟨rfl, rfl, rfl, rfl⟩
  | false =>
    refine Or.inr ?_
    cases hs : memSt (some (layM a b)) with
    | none =>
      rw [mem_none hs]
      exact Or.inl ⟨rfl, rfl, rfl, rfl⟩
    | some r => exact Or.inr ⟨rfl, ⟨r, rfl⟩, mem_some hs⟩
theorem three_v (c d u : Int) : ∃ (sv : Option (List UInt8)) (x y z : Int), (∀ (w : World) (g : Nat), At w g 100 (some (layV c d u)) → Calls Try.prog 23 #[.pointer (some ⟨g, 0, none⟩)] w fun e W' => e = .returned (vV x y z) ∧ At W' g 100 sv ∧ Turn g w.heap.size w W') ∧
    ((okV c d u = true ∧ some [] = sv ∧ c = x ∧ d = y ∧ u = z) ∨ (okV c d u = false ∧ none = sv ∧ 0 = x ∧ 0 = y ∧ 0 = z) ∨ (okV c d u = false ∧ (∃ r, some r = sv) ∧ okV x y z = true)) := by
  refine ⟨idSt (some (layV c d u)), (idOf (some (layV c d u))).1, (idOf (some (layV c d u))).2.1, (idOf (some (layV c d u))).2.2, fun w g h => readId_any g 100 _ w h (by decide), ?_⟩
  cases hk : okV c d u with
  | true =>
    have h := id_back hk []
    rw [List.append_nil] at h
    rw [h.1, h.2]
    exact Or.inl ⟨rfl, rfl, rfl, rfl, rfl⟩
  | false =>
    refine Or.inr ?_
    cases hs : idSt (some (layV c d u)) with
    | none =>
      rw [id_none hs]
      exact Or.inl ⟨rfl, rfl, rfl, rfl, rfl⟩
    | some r => exact Or.inr ⟨rfl, ⟨r, rfl⟩, id_some hs⟩

/-- The two Lefts are there, behind the two parameters' boxes. -/
structure Both2 (w wx : World) (ga gb : Nat) (a b c d u : Int) : Prop where
  la : At wx ga 100 (some (layM a b))
  lb : At wx gb 100 (some (layV c d u))
  ne : ga ≠ gb
  ha : w.heap.size + 2 ≤ ga
  hb : w.heap.size + 2 ≤ gb
  bm : Box wx w.heap.size [.int .i64 a, .int .i64 b]
  bv : Box wx (w.heap.size + 1) [.int .i64 c, .int .i64 d, .int .i64 u]
  low : Below w.heap.size w wx
theorem left_new (w : World) (s : List UInt8) (t : TypeId) (h : s.length ≤ 100) : At (w.alloc (.cells #[.string (tx s), .bool false] t)) w.heap.size 100 (some s) := ⟨leftAt_new w (tx s) s t rfl, h⟩
section
variable {w W0 W1 W2 : World} {a b c d u : Int} {t : TypeId} (hz : W0.heap.size = w.heap.size + 2) (bm : Box W0 w.heap.size [.int .i64 a, .int .i64 b]) (bv : Box W0 (w.heap.size + 1) [.int .i64 c, .int .i64 d, .int .i64 u]) (B : Below w.heap.size w W0) (h1 : Below W0.heap.size W0 W1)
include hz bm bv B h1
theorem both_one (h2 : Below (W1.alloc (.cells #[.string (tx (layM a b)), .bool false] t)).heap.size (W1.alloc (.cells #[.string (tx (layM a b)), .bool false] t)) W2) :
    Both2 w (W2.alloc (.cells #[.string (tx (layV c d u)), .bool false] t)) W1.heap.size W2.heap.size a b c d u := by
  have s1 := h1.size
  have s2 := h2.size
  have e1 : (W1.alloc (.cells #[.string (tx (layM a b)), .bool false] t)).heap.size = W1.heap.size + 1 := by simp
  rw [e1] at s2
  have n1 := below_new W1 (.cells #[.string (tx (layM a b)), .bool false] t)
  have n2 := below_new W2 (.cells #[.string (tx (layV c d u)), .bool false] t)
  have hh : Below (w.heap.size + 2) W0 (W2.alloc (.cells #[.string (tx (layV c d u)), .bool false] t)) :=
    ((h1.mono (by omega)).trans (n1.mono (by omega))).trans ((h2.mono (by rw [e1]; omega)).trans (n2.mono (by omega)))
  exact ⟨((left_new W1 (layM a b) t (by rw [layM_length]; decide)).next h2).below n2 (by omega), left_new W2 (layV c d u) t (by rw [layV_length]; decide), by omega, by omega, by omega, bm.below hh (by omega), bv.below hh (by omega), B.trans (hh.mono (by omega))⟩
theorem both_two (h2 : Below W1.heap.size W1 W2) :
    Both2 w ((W2.alloc (.cells #[.string (tx (layM a b)), .bool false] t)).alloc (.cells #[.string (tx (layV c d u)), .bool false] t)) W2.heap.size (W2.heap.size + 1) a b c d u := by
  have s1 := h1.size
  have s2 := h2.size
  have e1 : (W2.alloc (.cells #[.string (tx (layM a b)), .bool false] t)).heap.size = W2.heap.size + 1 := by simp
  have n1 := below_new W2 (.cells #[.string (tx (layM a b)), .bool false] t)
  have n2 := below_new (W2.alloc (.cells #[.string (tx (layM a b)), .bool false] t)) (.cells #[.string (tx (layV c d u)), .bool false] t)
  have lb := left_new (W2.alloc (.cells #[.string (tx (layM a b)), .bool false] t)) (layV c d u) t (by rw [layV_length]; decide)
  rw [e1] at n2 lb
  have hh : Below (w.heap.size + 2) W0 ((W2.alloc (.cells #[.string (tx (layM a b)), .bool false] t)).alloc (.cells #[.string (tx (layV c d u)), .bool false] t)) :=
    ((h1.mono (by omega)).trans (h2.mono (by omega))).trans ((n1.mono (by omega)).trans (n2.mono (by omega)))
  exact ⟨(left_new W2 (layM a b) t (by rw [layM_length]; decide)).below n2 (by omega), lb, by omega, by omega, by omega, bm.below hh (by omega), bv.below hh (by omega), B.trans (hh.mono (by omega))⟩
theorem both_three (h2 : Below W1.heap.size W1 W2) :
    Both2 w ((W2.alloc (.cells #[.string (tx (layV c d u)), .bool false] t)).alloc (.cells #[.string (tx (layM a b)), .bool false] t)) (W2.heap.size + 1) W2.heap.size a b c d u := by
  have s1 := h1.size
  have s2 := h2.size
  have e1 : (W2.alloc (.cells #[.string (tx (layV c d u)), .bool false] t)).heap.size = W2.heap.size + 1 := by simp
  have n1 := below_new W2 (.cells #[.string (tx (layV c d u)), .bool false] t)
  have n2 := below_new (W2.alloc (.cells #[.string (tx (layV c d u)), .bool false] t)) (.cells #[.string (tx (layM a b)), .bool false] t)
  have la := left_new (W2.alloc (.cells #[.string (tx (layV c d u)), .bool false] t)) (layM a b) t (by rw [layM_length]; decide)
  rw [e1] at n2 la
  have hh : Below (w.heap.size + 2) W0 ((W2.alloc (.cells #[.string (tx (layV c d u)), .bool false] t)).alloc (.cells #[.string (tx (layM a b)), .bool false] t)) :=
    ((h1.mono (by omega)).trans (h2.mono (by omega))).trans ((n1.mono (by omega)).trans (n2.mono (by omega)))
  exact ⟨la, (left_new W2 (layV c d u) t (by rw [layV_length]; decide)).below n2 (by omega), by omega, by omega, by omega, bm.below hh (by omega), bv.below hh (by omega), B.trans (hh.mono (by omega))⟩
end

set_option maxRecDepth 100000 in
set_option maxHeartbeats 16000000 in
theorem memberBack_in (a b c d u : Int) (w : World) :
    Calls Try.prog 5 #[vM a b, vV c d u] w fun e w' => e = .returned (.bool true) ∧ Below w.heap.size w w' := by
  go_enter Try.func5, Try.ntmps5
  go_upto_region 1 with fail
  obtain ⟨W0, hW0, bm, bv, B⟩ := new2 w [.int .i64 a, .int .i64 b] [.int .i64 c, .int .i64 d, .int .i64 u] 24 26
  have HZ := Lib.hid (show W0.heap.size = w.heap.size + 2 from by rw [← hW0]; simp)
  rw [hW0]
  clear hW0
  go_cut [5, 6] (fun s5 s6 wx => ∃ ga gb, s5 = .pointer (some ⟨ga, 0, none⟩) ∧ s6 = .pointer (some ⟨gb, 0, none⟩) ∧ Both2 w wx ga gb a b c d u)
  case first =>
    have x0 := bm.c 0 _ rfl
    have x1 := bm.c 1 _ rfl
    have y0 := bv.c 0 _ rfl
    have y1 := bv.c 1 _ rfl
    have y2 := bv.c 2 _ rfl
    have K1 : ∀ W', W' = W0.drew → Calls Try.prog 19 #[vM a b] W' fun e W1 => e = .returned (.string (tx (layM a b))) ∧ Below W0.heap.size W0 W1 ∧ W1.cell? ⟨w.heap.size + 1, 0, none⟩ = some (.int .i64 c) ∧ W1.cell? ⟨w.heap.size + 1, 1, none⟩ = some (.int .i64 d) ∧ W1.cell? ⟨w.heap.size + 1, 2, none⟩ = some (.int .i64 u) ∧ w.heap.size + 1 < W1.heap.size := by
      rintro W' rfl
      refine (print_any a b W0.drew).mono ?_
      rintro e W1 ⟨rfl, h1⟩
      have h1 : Below W0.heap.size W0 W1 := ⟨h1.os, h1.tape, h1.output, h1.size, h1.block⟩
      have b1 := bv.next h1
      exact ⟨rfl, h1, b1.c 0 _ rfl, b1.c 1 _ rfl, b1.c 2 _ rfl, by have := h1.size; have := HZ.out; omega⟩
    go_region_with (first | (go_at_call 21; refine (printId_any c d u _).mono ?_; rintro e W2 ⟨rfl, h2⟩) | (go_at_call 19; refine (K1 W0.drew rfl).mono ?_; rintro e W1 ⟨rfl, h1, z1, z2, z3, z4⟩))
    all_goals (go_wp2_with fail; go_meet; first | exact ⟨_, _, rfl, rfl, both_one HZ.out bm bv B h1 h2⟩ | exact ⟨_, _, rfl, rfl, both_two HZ.out bm bv B h1 h2⟩ | exact ⟨_, _, rfl, rfl, both_three HZ.out bm bv B h1 h2⟩)
  case rest =>
    obtain ⟨ga, gb, rfl, rfl, H⟩ := hcut
    obtain ⟨sm, x0, x1, KM, hm⟩ := three_m a b
    obtain ⟨sv, y0, y1, y2, KV, hq⟩ := three_v c d u
    have HM := Lib.hid hm
    have HV := Lib.hid hq
    clear hm hq
    go_wp2_with fail
    refine (KM _ ga H.la).mono ?_
    rintro e W3 ⟨rfl, la, ta⟩
    have lb := H.lb.keep (ta.block _ H.lb.lt (fun h => H.ne h.symm))
    go_wp2_with fail
    refine (KV _ gb lb).mono ?_
    rintro e W4 ⟨rfl, lb, tb⟩
    have la := la.keep (tb.block _ la.lt H.ne)
    go_upto_region 3 with fail
    obtain ⟨W5, hW5, bx, bY, B45⟩ := new2 W4 [.int .i64 x0, .int .i64 x1] [.int .i64 y0, .int .i64 y1, .int .i64 y2] 24 26
    rw [hW5]
    clear hW5
    have hm := HM.out
    have hq := HV.out
    have s3 := ta.size
    have s4 := tb.size
    have i1 := H.ha
    have i2 := H.hb
    have i3 := H.low.size
    have B34 : Below (w.heap.size + 2) wc W4 := (ta.below (by omega) (by have := H.la.lt; omega)).trans (tb.below (by omega) (by have := H.la.lt; omega))
    have B35 := B34.trans (B45.mono (by have := H.la.lt; omega))
    have B5 := H.low.trans (B35.mono (by omega))
    have bm := H.bm.below B35 (by omega)
    have bv := H.bv.below B35 (by omega)
    have la := la.next B45
    have lb := lb.next B45
    clear HM HV KM KV
    simp only [List.append]
    rcases hm with ⟨hk, rfl, rfl, rfl⟩ | ⟨hk, rfl, rfl, rfl⟩ | ⟨hk, ⟨r, rfl⟩, hx⟩ <;> rcases hq with ⟨hv, rfl, rfl, rfl, rfl⟩ | ⟨hv, rfl, rfl, rfl, rfl⟩ | ⟨hv, ⟨r2, rfl⟩, hy⟩
    ·
      have bA : W5.cell? ⟨ga, 1, none⟩ = some (.bool false) := la.bad
      have bB : W5.cell? ⟨gb, 1, none⟩ = some (.bool false) := lb.bad
      refine wp_region_line (fun i => ([.bool true, .bool true, .agg #[.int .i64 a, .int .i64 b], .bool true, .bool false, .bool false, .agg #[.int .i64 a, .int .i64 b], .agg #[.int .i64 a, .int .i64 b], .bool true, .bool true, .pointer (some ⟨ga, 0, none⟩), .bool true, .bool true, .bool true, .bool true, .bool true, .agg #[.int .i64 c, .int .i64 d, .int .i64 u], .bool true, .bool false, .bool false, .agg #[.int .i64 c, .int .i64 d, .int .i64 u], .agg #[.int .i64 c, .int .i64 d, .int .i64 u], .bool true, .bool true, .pointer (some ⟨gb, 0, none⟩), .bool true, .bool true, .bool true, .bool true, .bool true, .pointer (some ⟨ga, 0, none⟩), .pointer (some ⟨ga, 0, none⟩), .pointer (some ⟨ga, 1, none⟩), .bool false, .bool true, .bool true, undef, undef, undef, .bool true, .bool true, .bool true, .pointer (some ⟨gb, 0, none⟩), .pointer (some ⟨gb, 0, none⟩), .pointer (some ⟨gb, 1, none⟩), .bool false, .bool true, .bool true, undef, undef, undef, .bool true, .bool true, .bool true, .pointer (some ⟨ga, 0, none⟩), .pointer (some ⟨ga, 0, none⟩), .pointer (some ⟨ga, 1, none⟩), .bool false, .bool false, .agg #[.int .i64 a, .int .i64 b], .bool true, .bool true, .bool true, .bool true, .pointer (some ⟨gb, 0, none⟩), .pointer (some ⟨gb, 0, none⟩), .pointer (some ⟨gb, 1, none⟩), .bool false, .bool false, .agg #[.int .i64 c, .int .i64 d, .int .i64 u], .bool true, .bool true, .bool true, .bool true] : List Value).getD i undef) [0, 3, 11, 17, 25, 60, 70] [0, 1, 1, 1, 2, 2, 2, 2, 2, 2, 2, 2, 3, 3, 3, 3, 3, 3, 4, 4, 4, 4, 4, 4, 4, 4, 5, 5, 5, 5, 5, 5, 5, 5, 5, 5, 5, 5, 5, 5, 5, 5, 5, 5, 5, 5, 5, 5, 5, 5, 5, 5, 5, 5, 5, 5, 5, 5, 5, 5, 5, 6, 6, 6, 6, 6, 6, 6, 6, 6, 6, 7, 7, 7] (fun _ w' => Below W5.heap.size W5 w') (by kernel_rfl) (⟨rfl, rfl, rfl, Nat.le_refl _, fun _ _ => rfl⟩) ?_ ?_
      · refine Obs_of_endsL (by kernel_rfl) ?_
        intro Fr hEA
        refine ⟨?_, ?_, ?_, ?_, ?_, ?_, ?_, ?_, ?_, ?_, ?_, ?_, ?_, ?_, ?_, ?_, ?_, ?_, ?_, ?_, ?_, ?_, ?_, ?_, ?_, ?_, ?_, ?_, ?_, ?_, ?_, ?_, ?_, ?_, ?_, ?_, ?_, ?_, ?_, ?_, ?_, ?_, ?_, ?_, ?_, ?_, ?_, ?_, ?_, ?_, ?_, ?_, ?_, ?_, ?_, ?_, ?_, ?_, ?_, ?_, ?_, ?_, ?_, ?_, ?_, ?_, ?_, ?_, ?_, ?_, ?_, ?_, ?_, ?_, trivial⟩
        · refine ob_call (q := 0) (f := 8) (args := #[]) (want_none rfl) (by kernel_rfl) (fun w' => by simp [go_sem]) ?_
          intro w' hw
          refine (Calls.mono (R := fun E W' => E = .returned (.bool true) ∧ Below w'.heap.size w' W') (awake8_any w') ?_)
          rintro e w2 ⟨rfl, hb⟩
          exact ⟨rfl, hw.trans (hb.mono hw.size)⟩
        · exact ob_move _ rfl (want_none rfl) (by kernel_rfl) (eval_dst hEA (j := 0) rfl rfl)
        · refine ob_val (want_is hEA (g := 1) (x := true) (b := true) rfl rfl rfl rfl) (by kernel_rfl) (fun ph w' hp hpm hw => ?_)
          have hc0 := (hw.cell (p := ⟨w.heap.size, 0, none⟩) bm.lt).trans (bm.c 0 _ rfl)
          have hc1 := (hw.cell (p := ⟨w.heap.size, 1, none⟩) bm.lt).trans (bm.c 1 _ rfl)
          have e2 : Fr.tmps[2]? = some (.pointer (some ⟨w.heap.size, 0, none⟩)) := at_out hEA (d := 2) (by kernel_rfl); simp [execOp, e2, hc0, hc1, go_sem]
        · refine ob_call (q := 1) (f := 11) (args := #[.agg #[.int .i64 a, .int .i64 b]]) (want_is hEA (g := 1) (x := true) (b := true) rfl rfl rfl rfl) (by kernel_rfl) (fun w' => by have e23 : Fr.tmps[23]? = some (.agg #[.int .i64 a, .int .i64 b]) := hEA.dst 2 _ 23 rfl rfl; simp [e23, go_sem]) ?_
          intro w' hw
          refine (Calls.mono (R := fun E W' => E = .returned (.bool true) ∧ Below w'.heap.size w' W') (by have := mright_any a b w'; rwa [hk] at this) ?_)
          rintro e w2 ⟨rfl, hb⟩
          exact ⟨rfl, hw.trans (hb.mono hw.size)⟩
        · refine ob_val (want_is hEA (g := 1) (x := true) (b := true) rfl rfl rfl rfl) (by kernel_rfl) (fun ph w' hp hpm hw => ?_)
          have e24 : Fr.tmps[24]? = some (.bool true) := hEA.dst 3 _ 24 rfl rfl; simp [execOp, e24, go_sem]
        · exact ob_move _ rfl (want_is hEA (g := 1) (x := true) (b := true) rfl rfl rfl rfl) (by kernel_rfl) (eval_dst hEA (j := 4) rfl rfl)
        · refine ob_val (want_is hEA (g := 5) (x := false) (b := false) rfl rfl rfl rfl) (by kernel_rfl) (fun ph w' hp hpm hw => ?_)
          have hc0 := (hw.cell (p := ⟨W4.heap.size, 0, none⟩) bx.lt).trans (bx.c 0 _ rfl)
          have hc1 := (hw.cell (p := ⟨W4.heap.size, 1, none⟩) bx.lt).trans (bx.c 1 _ rfl)
          have e7 : Fr.tmps[7]? = some (.pointer (some ⟨W4.heap.size, 0, none⟩)) := at_out hEA (d := 7) (by kernel_rfl); simp [execOp, e7, hc0, hc1, go_sem]
        · refine ob_val (want_is hEA (g := 5) (x := false) (b := false) rfl rfl rfl rfl) (by kernel_rfl) (fun ph w' hp hpm hw => ?_)
          have hc0 := (hw.cell (p := ⟨w.heap.size, 0, none⟩) bm.lt).trans (bm.c 0 _ rfl)
          have hc1 := (hw.cell (p := ⟨w.heap.size, 1, none⟩) bm.lt).trans (bm.c 1 _ rfl)
          have e2 : Fr.tmps[2]? = some (.pointer (some ⟨w.heap.size, 0, none⟩)) := at_out hEA (d := 2) (by kernel_rfl); simp [execOp, e2, hc0, hc1, go_sem]
        · refine ob_val (want_is hEA (g := 5) (x := false) (b := false) rfl rfl rfl rfl) (by kernel_rfl) (fun ph w' hp hpm hw => ?_)
          have e27 : Fr.tmps[27]? = some (.agg #[.int .i64 a, .int .i64 b]) := hEA.dst 6 _ 27 rfl rfl; have e28 : Fr.tmps[28]? = some (.agg #[.int .i64 a, .int .i64 b]) := hEA.dst 7 _ 28 rfl rfl; simp [execOp, e27, e28, go_sem]
        · exact ob_move _ rfl (want_is hEA (g := 5) (x := false) (b := false) rfl rfl rfl rfl) (by kernel_rfl) (eval_dst hEA (j := 8) rfl rfl)
        · exact ob_move _ rfl (want_is hEA (g := 9) (x := true) (b := true) rfl rfl rfl rfl) (by kernel_rfl) (eval_out hEA (d := 5) (by kernel_rfl))
        · refine ob_call (q := 2) (f := 27) (args := #[.pointer (some ⟨ga, 0, none⟩)]) (want_is hEA (g := 9) (x := true) (b := true) rfl rfl rfl rfl) (by kernel_rfl) (fun w' => by have e31 : Fr.tmps[31]? = some (.pointer (some ⟨ga, 0, none⟩)) := hEA.dst 10 _ 31 rfl rfl; simp [e31, go_sem]) ?_
          intro w' hw
          refine (leftDone_st ga 100 (some []) w' (la.next hw)).mono ?_
          rintro e w2 ⟨rfl, rfl⟩
          exact ⟨rfl, hw⟩
        · refine ob_val (want_is hEA (g := 5) (x := false) (b := false) rfl rfl rfl rfl) (by kernel_rfl) (fun ph w' hp hpm hw => ?_)
          have e30 : Fr.tmps[30]? = some (.bool true) := hEA.dst 9 _ 30 rfl rfl; have e32 : Fr.tmps[32]? = some (.bool true) := hEA.dst 11 _ 32 rfl rfl; simp [execOp, e30, e32, go_sem]
        · refine ob_val (want_is hEA (g := 1) (x := true) (b := true) rfl rfl rfl rfl) (by kernel_rfl) (fun ph w' hp hpm hw => ?_)
          have e26 : Fr.tmps[26]? = some (.bool false) := hEA.dst 5 _ 26 rfl rfl; have e33 : Fr.tmps[33]? = some (.bool true) := hEA.dst 12 _ 33 rfl rfl; simp [execOp, e26, e33, go_sem]
        · refine ob_val (want_none rfl) (by kernel_rfl) (fun ph w' hp hpm hw => ?_)
          have e22 : Fr.tmps[22]? = some (.bool true) := hEA.dst 1 _ 22 rfl rfl; have e34 : Fr.tmps[34]? = some (.bool true) := hEA.dst 13 _ 34 rfl rfl; simp [execOp, e22, e34, go_sem]
        · exact ob_move _ rfl (want_none rfl) (by kernel_rfl) (eval_dst hEA (j := 14) rfl rfl)
        · refine ob_val (want_is hEA (g := 15) (x := true) (b := true) rfl rfl rfl rfl) (by kernel_rfl) (fun ph w' hp hpm hw => ?_)
          have hc0 := (hw.cell (p := ⟨w.heap.size + 1, 0, none⟩) bv.lt).trans (bv.c 0 _ rfl)
          have hc1 := (hw.cell (p := ⟨w.heap.size + 1, 1, none⟩) bv.lt).trans (bv.c 1 _ rfl)
          have hc2 := (hw.cell (p := ⟨w.heap.size + 1, 2, none⟩) bv.lt).trans (bv.c 2 _ rfl)
          have e3 : Fr.tmps[3]? = some (.pointer (some ⟨w.heap.size + 1, 0, none⟩)) := at_out hEA (d := 3) (by kernel_rfl); simp [execOp, e3, hc0, hc1, hc2, go_sem]
        · refine ob_call (q := 3) (f := 15) (args := #[.agg #[.int .i64 c, .int .i64 d, .int .i64 u]]) (want_is hEA (g := 15) (x := true) (b := true) rfl rfl rfl rfl) (by kernel_rfl) (fun w' => by have e37 : Fr.tmps[37]? = some (.agg #[.int .i64 c, .int .i64 d, .int .i64 u]) := hEA.dst 16 _ 37 rfl rfl; simp [e37, go_sem]) ?_
          intro w' hw
          refine (Calls.mono (R := fun E W' => E = .returned (.bool true) ∧ Below w'.heap.size w' W') (by have := id_any c d u w'; rwa [hv] at this) ?_)
          rintro e w2 ⟨rfl, hb⟩
          exact ⟨rfl, hw.trans (hb.mono hw.size)⟩
        · refine ob_val (want_is hEA (g := 15) (x := true) (b := true) rfl rfl rfl rfl) (by kernel_rfl) (fun ph w' hp hpm hw => ?_)
          have e38 : Fr.tmps[38]? = some (.bool true) := hEA.dst 17 _ 38 rfl rfl; simp [execOp, e38, go_sem]
        · exact ob_move _ rfl (want_is hEA (g := 15) (x := true) (b := true) rfl rfl rfl rfl) (by kernel_rfl) (eval_dst hEA (j := 18) rfl rfl)
        · refine ob_val (want_is hEA (g := 19) (x := false) (b := false) rfl rfl rfl rfl) (by kernel_rfl) (fun ph w' hp hpm hw => ?_)
          have hc0 := (hw.cell (p := ⟨W4.heap.size + 1, 0, none⟩) bY.lt).trans (bY.c 0 _ rfl)
          have hc1 := (hw.cell (p := ⟨W4.heap.size + 1, 1, none⟩) bY.lt).trans (bY.c 1 _ rfl)
          have hc2 := (hw.cell (p := ⟨W4.heap.size + 1, 2, none⟩) bY.lt).trans (bY.c 2 _ rfl)
          have e8 : Fr.tmps[8]? = some (.pointer (some ⟨W4.heap.size + 1, 0, none⟩)) := at_out hEA (d := 8) (by kernel_rfl); simp [execOp, e8, hc0, hc1, hc2, go_sem]
        · refine ob_val (want_is hEA (g := 19) (x := false) (b := false) rfl rfl rfl rfl) (by kernel_rfl) (fun ph w' hp hpm hw => ?_)
          have hc0 := (hw.cell (p := ⟨w.heap.size + 1, 0, none⟩) bv.lt).trans (bv.c 0 _ rfl)
          have hc1 := (hw.cell (p := ⟨w.heap.size + 1, 1, none⟩) bv.lt).trans (bv.c 1 _ rfl)
          have hc2 := (hw.cell (p := ⟨w.heap.size + 1, 2, none⟩) bv.lt).trans (bv.c 2 _ rfl)
          have e3 : Fr.tmps[3]? = some (.pointer (some ⟨w.heap.size + 1, 0, none⟩)) := at_out hEA (d := 3) (by kernel_rfl); simp [execOp, e3, hc0, hc1, hc2, go_sem]
        · refine ob_val (want_is hEA (g := 19) (x := false) (b := false) rfl rfl rfl rfl) (by kernel_rfl) (fun ph w' hp hpm hw => ?_)
          have e41 : Fr.tmps[41]? = some (.agg #[.int .i64 c, .int .i64 d, .int .i64 u]) := hEA.dst 20 _ 41 rfl rfl; have e42 : Fr.tmps[42]? = some (.agg #[.int .i64 c, .int .i64 d, .int .i64 u]) := hEA.dst 21 _ 42 rfl rfl; simp [execOp, e41, e42, go_sem]
        · exact ob_move _ rfl (want_is hEA (g := 19) (x := false) (b := false) rfl rfl rfl rfl) (by kernel_rfl) (eval_dst hEA (j := 22) rfl rfl)
        · exact ob_move _ rfl (want_is hEA (g := 23) (x := true) (b := true) rfl rfl rfl rfl) (by kernel_rfl) (eval_out hEA (d := 6) (by kernel_rfl))
        · refine ob_call (q := 4) (f := 27) (args := #[.pointer (some ⟨gb, 0, none⟩)]) (want_is hEA (g := 23) (x := true) (b := true) rfl rfl rfl rfl) (by kernel_rfl) (fun w' => by have e45 : Fr.tmps[45]? = some (.pointer (some ⟨gb, 0, none⟩)) := hEA.dst 24 _ 45 rfl rfl; simp [e45, go_sem]) ?_
          intro w' hw
          refine (leftDone_st gb 100 (some []) w' (lb.next hw)).mono ?_
          rintro e w2 ⟨rfl, rfl⟩
          exact ⟨rfl, hw⟩
        · refine ob_val (want_is hEA (g := 19) (x := false) (b := false) rfl rfl rfl rfl) (by kernel_rfl) (fun ph w' hp hpm hw => ?_)
          have e44 : Fr.tmps[44]? = some (.bool true) := hEA.dst 23 _ 44 rfl rfl; have e46 : Fr.tmps[46]? = some (.bool true) := hEA.dst 25 _ 46 rfl rfl; simp [execOp, e44, e46, go_sem]
        · refine ob_val (want_is hEA (g := 15) (x := true) (b := true) rfl rfl rfl rfl) (by kernel_rfl) (fun ph w' hp hpm hw => ?_)
          have e40 : Fr.tmps[40]? = some (.bool false) := hEA.dst 19 _ 40 rfl rfl; have e47 : Fr.tmps[47]? = some (.bool true) := hEA.dst 26 _ 47 rfl rfl; simp [execOp, e40, e47, go_sem]
        · refine ob_val (want_none rfl) (by kernel_rfl) (fun ph w' hp hpm hw => ?_)
          have e36 : Fr.tmps[36]? = some (.bool true) := hEA.dst 15 _ 36 rfl rfl; have e48 : Fr.tmps[48]? = some (.bool true) := hEA.dst 27 _ 48 rfl rfl; simp [execOp, e36, e48, go_sem]
        · exact ob_move _ rfl (want_none rfl) (by kernel_rfl) (eval_dst hEA (j := 28) rfl rfl)
        · exact ob_move _ rfl (want_is hEA (g := 29) (x := true) (b := true) rfl rfl rfl rfl) (by kernel_rfl) (eval_out hEA (d := 5) (by kernel_rfl))
        · refine ob_val (want_is hEA (g := 29) (x := true) (b := true) rfl rfl rfl rfl) (by kernel_rfl) (fun ph w' hp hpm hw => ?_)
          have e51 : Fr.tmps[51]? = some (.pointer (some ⟨ga, 0, none⟩)) := hEA.dst 30 _ 51 rfl rfl; simp [execOp, e51, go_sem]
        · refine ob_val (want_is hEA (g := 29) (x := true) (b := true) rfl rfl rfl rfl) (by kernel_rfl) (fun ph w' hp hpm hw => ?_)
          have e52 : Fr.tmps[52]? = some (.pointer (some ⟨ga, 0, none⟩)) := hEA.dst 31 _ 52 rfl rfl; simp [execOp, e52, go_sem]
        · refine ob_val (want_is hEA (g := 29) (x := true) (b := true) rfl rfl rfl rfl) (by kernel_rfl) (fun ph w' hp hpm hw => ?_)
          have hc0 := (hw.cell (p := ⟨ga, 1, none⟩) la.lt).trans bA
          have e53 : Fr.tmps[53]? = some (.pointer (some ⟨ga, 1, none⟩)) := hEA.dst 32 _ 53 rfl rfl; simp [execOp, e53, hc0, go_sem]
        · refine ob_val (want_is hEA (g := 29) (x := true) (b := true) rfl rfl rfl rfl) (by kernel_rfl) (fun ph w' hp hpm hw => ?_)
          have e54 : Fr.tmps[54]? = some (.bool false) := hEA.dst 33 _ 54 rfl rfl; simp [execOp, e54, go_sem]
        · exact ob_move _ rfl (want_is hEA (g := 29) (x := true) (b := true) rfl rfl rfl rfl) (by kernel_rfl) (eval_dst hEA (j := 34) rfl rfl)
        · exact ob_skip (want_is hEA (g := 35) (x := true) (b := false) rfl rfl rfl rfl) (by kernel_rfl) rfl
        · exact ob_skip (want_is hEA (g := 35) (x := true) (b := false) rfl rfl rfl rfl) (by kernel_rfl) rfl
        · exact ob_skip (want_is hEA (g := 35) (x := true) (b := false) rfl rfl rfl rfl) (by kernel_rfl) rfl
        · refine ob_val (want_is hEA (g := 29) (x := true) (b := true) rfl rfl rfl rfl) (by kernel_rfl) (fun ph w' hp hpm hw => ?_)
          have e56 : Fr.tmps[56]? = some (.bool true) := hEA.dst 35 _ 56 rfl rfl; have e59 : Fr.tmps[59]? = some (undef) := hEA.dst 38 _ 59 rfl rfl; simp [execOp, e56, e59, go_sem]
        · refine ob_val (want_none rfl) (by kernel_rfl) (fun ph w' hp hpm hw => ?_)
          have e50 : Fr.tmps[50]? = some (.bool true) := hEA.dst 29 _ 50 rfl rfl; have e60 : Fr.tmps[60]? = some (.bool true) := hEA.dst 39 _ 60 rfl rfl; simp [execOp, e50, e60, go_sem]
        · exact ob_move _ rfl (want_none rfl) (by kernel_rfl) (eval_dst hEA (j := 40) rfl rfl)
        · exact ob_move _ rfl (want_is hEA (g := 41) (x := true) (b := true) rfl rfl rfl rfl) (by kernel_rfl) (eval_out hEA (d := 6) (by kernel_rfl))
        · refine ob_val (want_is hEA (g := 41) (x := true) (b := true) rfl rfl rfl rfl) (by kernel_rfl) (fun ph w' hp hpm hw => ?_)
          have e63 : Fr.tmps[63]? = some (.pointer (some ⟨gb, 0, none⟩)) := hEA.dst 42 _ 63 rfl rfl; simp [execOp, e63, go_sem]
        · refine ob_val (want_is hEA (g := 41) (x := true) (b := true) rfl rfl rfl rfl) (by kernel_rfl) (fun ph w' hp hpm hw => ?_)
          have e64 : Fr.tmps[64]? = some (.pointer (some ⟨gb, 0, none⟩)) := hEA.dst 43 _ 64 rfl rfl; simp [execOp, e64, go_sem]
        · refine ob_val (want_is hEA (g := 41) (x := true) (b := true) rfl rfl rfl rfl) (by kernel_rfl) (fun ph w' hp hpm hw => ?_)
          have hc0 := (hw.cell (p := ⟨gb, 1, none⟩) lb.lt).trans bB
          have e65 : Fr.tmps[65]? = some (.pointer (some ⟨gb, 1, none⟩)) := hEA.dst 44 _ 65 rfl rfl; simp [execOp, e65, hc0, go_sem]
        · refine ob_val (want_is hEA (g := 41) (x := true) (b := true) rfl rfl rfl rfl) (by kernel_rfl) (fun ph w' hp hpm hw => ?_)
          have e66 : Fr.tmps[66]? = some (.bool false) := hEA.dst 45 _ 66 rfl rfl; simp [execOp, e66, go_sem]
        · exact ob_move _ rfl (want_is hEA (g := 41) (x := true) (b := true) rfl rfl rfl rfl) (by kernel_rfl) (eval_dst hEA (j := 46) rfl rfl)
        · exact ob_skip (want_is hEA (g := 47) (x := true) (b := false) rfl rfl rfl rfl) (by kernel_rfl) rfl
        · exact ob_skip (want_is hEA (g := 47) (x := true) (b := false) rfl rfl rfl rfl) (by kernel_rfl) rfl
        · exact ob_skip (want_is hEA (g := 47) (x := true) (b := false) rfl rfl rfl rfl) (by kernel_rfl) rfl
        · refine ob_val (want_is hEA (g := 41) (x := true) (b := true) rfl rfl rfl rfl) (by kernel_rfl) (fun ph w' hp hpm hw => ?_)
          have e68 : Fr.tmps[68]? = some (.bool true) := hEA.dst 47 _ 68 rfl rfl; have e71 : Fr.tmps[71]? = some (undef) := hEA.dst 50 _ 71 rfl rfl; simp [execOp, e68, e71, go_sem]
        · refine ob_val (want_none rfl) (by kernel_rfl) (fun ph w' hp hpm hw => ?_)
          have e62 : Fr.tmps[62]? = some (.bool true) := hEA.dst 41 _ 62 rfl rfl; have e72 : Fr.tmps[72]? = some (.bool true) := hEA.dst 51 _ 72 rfl rfl; simp [execOp, e62, e72, go_sem]
        · exact ob_move _ rfl (want_none rfl) (by kernel_rfl) (eval_dst hEA (j := 52) rfl rfl)
        · exact ob_move _ rfl (want_is hEA (g := 53) (x := true) (b := true) rfl rfl rfl rfl) (by kernel_rfl) (eval_out hEA (d := 5) (by kernel_rfl))
        · refine ob_val (want_is hEA (g := 53) (x := true) (b := true) rfl rfl rfl rfl) (by kernel_rfl) (fun ph w' hp hpm hw => ?_)
          have e75 : Fr.tmps[75]? = some (.pointer (some ⟨ga, 0, none⟩)) := hEA.dst 54 _ 75 rfl rfl; simp [execOp, e75, go_sem]
        · refine ob_val (want_is hEA (g := 53) (x := true) (b := true) rfl rfl rfl rfl) (by kernel_rfl) (fun ph w' hp hpm hw => ?_)
          have e76 : Fr.tmps[76]? = some (.pointer (some ⟨ga, 0, none⟩)) := hEA.dst 55 _ 76 rfl rfl; simp [execOp, e76, go_sem]
        · refine ob_val (want_is hEA (g := 53) (x := true) (b := true) rfl rfl rfl rfl) (by kernel_rfl) (fun ph w' hp hpm hw => ?_)
          have hc0 := (hw.cell (p := ⟨ga, 1, none⟩) la.lt).trans bA
          have e77 : Fr.tmps[77]? = some (.pointer (some ⟨ga, 1, none⟩)) := hEA.dst 56 _ 77 rfl rfl; simp [execOp, e77, hc0, go_sem]
        · exact ob_move _ rfl (want_is hEA (g := 53) (x := true) (b := true) rfl rfl rfl rfl) (by kernel_rfl) (eval_dst hEA (j := 57) rfl rfl)
        · refine ob_val (want_is hEA (g := 58) (x := false) (b := false) rfl rfl rfl rfl) (by kernel_rfl) (fun ph w' hp hpm hw => ?_)
          have hc0 := (hw.cell (p := ⟨W4.heap.size, 0, none⟩) bx.lt).trans (bx.c 0 _ rfl)
          have hc1 := (hw.cell (p := ⟨W4.heap.size, 1, none⟩) bx.lt).trans (bx.c 1 _ rfl)
          have e7 : Fr.tmps[7]? = some (.pointer (some ⟨W4.heap.size, 0, none⟩)) := at_out hEA (d := 7) (by kernel_rfl); simp [execOp, e7, hc0, hc1, go_sem]
        · refine ob_call (q := 5) (f := 11) (args := #[.agg #[.int .i64 a, .int .i64 b]]) (want_is hEA (g := 58) (x := false) (b := false) rfl rfl rfl rfl) (by kernel_rfl) (fun w' => by have e80 : Fr.tmps[80]? = some (.agg #[.int .i64 a, .int .i64 b]) := hEA.dst 59 _ 80 rfl rfl; simp [e80, go_sem]) ?_
          intro w' hw
          refine (Calls.mono (R := fun E W' => E = .returned (.bool true) ∧ Below w'.heap.size w' W') (by have := mright_any a b w'; rwa [hk] at this) ?_)
          rintro e w2 ⟨rfl, hb⟩
          exact ⟨rfl, hw.trans (hb.mono hw.size)⟩
        · refine ob_val (want_is hEA (g := 53) (x := true) (b := true) rfl rfl rfl rfl) (by kernel_rfl) (fun ph w' hp hpm hw => ?_)
          have e79 : Fr.tmps[79]? = some (.bool false) := hEA.dst 58 _ 79 rfl rfl; have e81 : Fr.tmps[81]? = some (.bool true) := hEA.dst 60 _ 81 rfl rfl; simp [execOp, e79, e81, go_sem]
        · refine ob_val (want_none rfl) (by kernel_rfl) (fun ph w' hp hpm hw => ?_)
          have e74 : Fr.tmps[74]? = some (.bool true) := hEA.dst 53 _ 74 rfl rfl; have e82 : Fr.tmps[82]? = some (.bool true) := hEA.dst 61 _ 82 rfl rfl; simp [execOp, e74, e82, go_sem]
        · exact ob_move _ rfl (want_none rfl) (by kernel_rfl) (eval_dst hEA (j := 62) rfl rfl)
        · exact ob_move _ rfl (want_is hEA (g := 63) (x := true) (b := true) rfl rfl rfl rfl) (by kernel_rfl) (eval_out hEA (d := 6) (by kernel_rfl))
        · refine ob_val (want_is hEA (g := 63) (x := true) (b := true) rfl rfl rfl rfl) (by kernel_rfl) (fun ph w' hp hpm hw => ?_)
          have e85 : Fr.tmps[85]? = some (.pointer (some ⟨gb, 0, none⟩)) := hEA.dst 64 _ 85 rfl rfl; simp [execOp, e85, go_sem]
        · refine ob_val (want_is hEA (g := 63) (x := true) (b := true) rfl rfl rfl rfl) (by kernel_rfl) (fun ph w' hp hpm hw => ?_)
          have e86 : Fr.tmps[86]? = some (.pointer (some ⟨gb, 0, none⟩)) := hEA.dst 65 _ 86 rfl rfl; simp [execOp, e86, go_sem]
        · refine ob_val (want_is hEA (g := 63) (x := true) (b := true) rfl rfl rfl rfl) (by kernel_rfl) (fun ph w' hp hpm hw => ?_)
          have hc0 := (hw.cell (p := ⟨gb, 1, none⟩) lb.lt).trans bB
          have e87 : Fr.tmps[87]? = some (.pointer (some ⟨gb, 1, none⟩)) := hEA.dst 66 _ 87 rfl rfl; simp [execOp, e87, hc0, go_sem]
        · exact ob_move _ rfl (want_is hEA (g := 63) (x := true) (b := true) rfl rfl rfl rfl) (by kernel_rfl) (eval_dst hEA (j := 67) rfl rfl)
        · refine ob_val (want_is hEA (g := 68) (x := false) (b := false) rfl rfl rfl rfl) (by kernel_rfl) (fun ph w' hp hpm hw => ?_)
          have hc0 := (hw.cell (p := ⟨W4.heap.size + 1, 0, none⟩) bY.lt).trans (bY.c 0 _ rfl)
          have hc1 := (hw.cell (p := ⟨W4.heap.size + 1, 1, none⟩) bY.lt).trans (bY.c 1 _ rfl)
          have hc2 := (hw.cell (p := ⟨W4.heap.size + 1, 2, none⟩) bY.lt).trans (bY.c 2 _ rfl)
          have e8 : Fr.tmps[8]? = some (.pointer (some ⟨W4.heap.size + 1, 0, none⟩)) := at_out hEA (d := 8) (by kernel_rfl); simp [execOp, e8, hc0, hc1, hc2, go_sem]
        · refine ob_call (q := 6) (f := 15) (args := #[.agg #[.int .i64 c, .int .i64 d, .int .i64 u]]) (want_is hEA (g := 68) (x := false) (b := false) rfl rfl rfl rfl) (by kernel_rfl) (fun w' => by have e90 : Fr.tmps[90]? = some (.agg #[.int .i64 c, .int .i64 d, .int .i64 u]) := hEA.dst 69 _ 90 rfl rfl; simp [e90, go_sem]) ?_
          intro w' hw
          refine (Calls.mono (R := fun E W' => E = .returned (.bool true) ∧ Below w'.heap.size w' W') (by have := id_any c d u w'; rwa [hv] at this) ?_)
          rintro e w2 ⟨rfl, hb⟩
          exact ⟨rfl, hw.trans (hb.mono hw.size)⟩
        · refine ob_val (want_is hEA (g := 63) (x := true) (b := true) rfl rfl rfl rfl) (by kernel_rfl) (fun ph w' hp hpm hw => ?_)
          have e89 : Fr.tmps[89]? = some (.bool false) := hEA.dst 68 _ 89 rfl rfl; have e91 : Fr.tmps[91]? = some (.bool true) := hEA.dst 70 _ 91 rfl rfl; simp [execOp, e89, e91, go_sem]
        · refine ob_val (want_none rfl) (by kernel_rfl) (fun ph w' hp hpm hw => ?_)
          have e84 : Fr.tmps[84]? = some (.bool true) := hEA.dst 63 _ 84 rfl rfl; have e92 : Fr.tmps[92]? = some (.bool true) := hEA.dst 71 _ 92 rfl rfl; simp [execOp, e84, e92, go_sem]
        · refine ob_val (want_none rfl) (by kernel_rfl) (fun ph w' hp hpm hw => ?_)
          have e93 : Fr.tmps[93]? = some (.bool true) := hEA.dst 72 _ 93 rfl rfl; simp [execOp, e93, go_sem]
      · intro w' hw
        simp only [laid, Act.put, List.setIfInBounds_toArray, List.set_cons_succ, List.set_cons_zero, List.getD_cons_succ, List.getD_cons_zero, Nat.zero_add, Nat.reduceAdd]
        go_wp2_with fail
        go_ret
        exact ⟨rfl, B5.trans (hw.mono B5.size)⟩
    ·
      have bA : W5.cell? ⟨ga, 1, none⟩ = some (.bool false) := la.bad
      have bB : W5.cell? ⟨gb, 1, none⟩ = some (.bool true) := lb.bad
      refine wp_region_line (fun i => ([.bool true, .bool true, .agg #[.int .i64 a, .int .i64 b], .bool true, .bool false, .bool false, .agg #[.int .i64 a, .int .i64 b], .agg #[.int .i64 a, .int .i64 b], .bool true, .bool true, .pointer (some ⟨ga, 0, none⟩), .bool true, .bool true, .bool true, .bool true, .bool true, .agg #[.int .i64 c, .int .i64 d, .int .i64 u], .bool false, .bool true, .bool true, undef, undef, undef, undef, undef, undef, undef, .bool true, .bool true, .bool true, .pointer (some ⟨ga, 0, none⟩), .pointer (some ⟨ga, 0, none⟩), .pointer (some ⟨ga, 1, none⟩), .bool false, .bool true, .bool true, undef, undef, undef, .bool true, .bool true, .bool true, .pointer (some ⟨gb, 0, none⟩), .pointer (some ⟨gb, 0, none⟩), .pointer (some ⟨gb, 1, none⟩), .bool true, .bool false, .bool false, .agg #[.int .i64 0, .int .i64 0, .int .i64 0], .agg #[.int .i64 0, .int .i64 0, .int .i64 0], .bool true, .bool true, .bool true, .bool true, .pointer (some ⟨ga, 0, none⟩), .pointer (some ⟨ga, 0, none⟩), .pointer (some ⟨ga, 1, none⟩), .bool false, .bool false, .agg #[.int .i64 a, .int .i64 b], .bool true, .bool true, .bool true, .bool true, .pointer (some ⟨gb, 0, none⟩), .pointer (some ⟨gb, 0, none⟩), .pointer (some ⟨gb, 1, none⟩), .bool true, .bool true, undef, undef, .bool true, .bool true, .bool true] : List Value).getD i undef) [0, 3, 11, 17, 60] [0, 1, 1, 1, 2, 2, 2, 2, 2, 2, 2, 2, 3, 3, 3, 3, 3, 3, 4, 4, 4, 4, 4, 4, 4, 4, 4, 4, 4, 4, 4, 4, 4, 4, 4, 4, 4, 4, 4, 4, 4, 4, 4, 4, 4, 4, 4, 4, 4, 4, 4, 4, 4, 4, 4, 4, 4, 4, 4, 4, 4, 5, 5, 5, 5, 5, 5, 5, 5, 5, 5, 5, 5, 5] (fun _ w' => Below W5.heap.size W5 w') (by kernel_rfl) (⟨rfl, rfl, rfl, Nat.le_refl _, fun _ _ => rfl⟩) ?_ ?_
      · refine Obs_of_endsL (by kernel_rfl) ?_
        intro Fr hEA
        refine ⟨?_, ?_, ?_, ?_, ?_, ?_, ?_, ?_, ?_, ?_, ?_, ?_, ?_, ?_, ?_, ?_, ?_, ?_, ?_, ?_, ?_, ?_, ?_, ?_, ?_, ?_, ?_, ?_, ?_, ?_, ?_, ?_, ?_, ?_, ?_, ?_, ?_, ?_, ?_, ?_, ?_, ?_, ?_, ?_, ?_, ?_, ?_, ?_, ?_, ?_, ?_, ?_, ?_, ?_, ?_, ?_, ?_, ?_, ?_, ?_, ?_, ?_, ?_, ?_, ?_, ?_, ?_, ?_, ?_, ?_, ?_, ?_, ?_, ?_, trivial⟩
        · refine ob_call (q := 0) (f := 8) (args := #[]) (want_none rfl) (by kernel_rfl) (fun w' => by simp [go_sem]) ?_
          intro w' hw
          refine (Calls.mono (R := fun E W' => E = .returned (.bool true) ∧ Below w'.heap.size w' W') (awake8_any w') ?_)
          rintro e w2 ⟨rfl, hb⟩
          exact ⟨rfl, hw.trans (hb.mono hw.size)⟩
        · exact ob_move _ rfl (want_none rfl) (by kernel_rfl) (eval_dst hEA (j := 0) rfl rfl)
        · refine ob_val (want_is hEA (g := 1) (x := true) (b := true) rfl rfl rfl rfl) (by kernel_rfl) (fun ph w' hp hpm hw => ?_)
          have hc0 := (hw.cell (p := ⟨w.heap.size, 0, none⟩) bm.lt).trans (bm.c 0 _ rfl)
          have hc1 := (hw.cell (p := ⟨w.heap.size, 1, none⟩) bm.lt).trans (bm.c 1 _ rfl)
          have e2 : Fr.tmps[2]? = some (.pointer (some ⟨w.heap.size, 0, none⟩)) := at_out hEA (d := 2) (by kernel_rfl); simp [execOp, e2, hc0, hc1, go_sem]
        · refine ob_call (q := 1) (f := 11) (args := #[.agg #[.int .i64 a, .int .i64 b]]) (want_is hEA (g := 1) (x := true) (b := true) rfl rfl rfl rfl) (by kernel_rfl) (fun w' => by have e23 : Fr.tmps[23]? = some (.agg #[.int .i64 a, .int .i64 b]) := hEA.dst 2 _ 23 rfl rfl; simp [e23, go_sem]) ?_
          intro w' hw
          refine (Calls.mono (R := fun E W' => E = .returned (.bool true) ∧ Below w'.heap.size w' W') (by have := mright_any a b w'; rwa [hk] at this) ?_)
          rintro e w2 ⟨rfl, hb⟩
          exact ⟨rfl, hw.trans (hb.mono hw.size)⟩
        · refine ob_val (want_is hEA (g := 1) (x := true) (b := true) rfl rfl rfl rfl) (by kernel_rfl) (fun ph w' hp hpm hw => ?_)
          have e24 : Fr.tmps[24]? = some (.bool true) := hEA.dst 3 _ 24 rfl rfl; simp [execOp, e24, go_sem]
        · exact ob_move _ rfl (want_is hEA (g := 1) (x := true) (b := true) rfl rfl rfl rfl) (by kernel_rfl) (eval_dst hEA (j := 4) rfl rfl)
        · refine ob_val (want_is hEA (g := 5) (x := false) (b := false) rfl rfl rfl rfl) (by kernel_rfl) (fun ph w' hp hpm hw => ?_)
          have hc0 := (hw.cell (p := ⟨W4.heap.size, 0, none⟩) bx.lt).trans (bx.c 0 _ rfl)
          have hc1 := (hw.cell (p := ⟨W4.heap.size, 1, none⟩) bx.lt).trans (bx.c 1 _ rfl)
          have e7 : Fr.tmps[7]? = some (.pointer (some ⟨W4.heap.size, 0, none⟩)) := at_out hEA (d := 7) (by kernel_rfl); simp [execOp, e7, hc0, hc1, go_sem]
        · refine ob_val (want_is hEA (g := 5) (x := false) (b := false) rfl rfl rfl rfl) (by kernel_rfl) (fun ph w' hp hpm hw => ?_)
          have hc0 := (hw.cell (p := ⟨w.heap.size, 0, none⟩) bm.lt).trans (bm.c 0 _ rfl)
          have hc1 := (hw.cell (p := ⟨w.heap.size, 1, none⟩) bm.lt).trans (bm.c 1 _ rfl)
          have e2 : Fr.tmps[2]? = some (.pointer (some ⟨w.heap.size, 0, none⟩)) := at_out hEA (d := 2) (by kernel_rfl); simp [execOp, e2, hc0, hc1, go_sem]
        · refine ob_val (want_is hEA (g := 5) (x := false) (b := false) rfl rfl rfl rfl) (by kernel_rfl) (fun ph w' hp hpm hw => ?_)
          have e27 : Fr.tmps[27]? = some (.agg #[.int .i64 a, .int .i64 b]) := hEA.dst 6 _ 27 rfl rfl; have e28 : Fr.tmps[28]? = some (.agg #[.int .i64 a, .int .i64 b]) := hEA.dst 7 _ 28 rfl rfl; simp [execOp, e27, e28, go_sem]
        · exact ob_move _ rfl (want_is hEA (g := 5) (x := false) (b := false) rfl rfl rfl rfl) (by kernel_rfl) (eval_dst hEA (j := 8) rfl rfl)
        · exact ob_move _ rfl (want_is hEA (g := 9) (x := true) (b := true) rfl rfl rfl rfl) (by kernel_rfl) (eval_out hEA (d := 5) (by kernel_rfl))
        · refine ob_call (q := 2) (f := 27) (args := #[.pointer (some ⟨ga, 0, none⟩)]) (want_is hEA (g := 9) (x := true) (b := true) rfl rfl rfl rfl) (by kernel_rfl) (fun w' => by have e31 : Fr.tmps[31]? = some (.pointer (some ⟨ga, 0, none⟩)) := hEA.dst 10 _ 31 rfl rfl; simp [e31, go_sem]) ?_
          intro w' hw
          refine (leftDone_st ga 100 (some []) w' (la.next hw)).mono ?_
          rintro e w2 ⟨rfl, rfl⟩
          exact ⟨rfl, hw⟩
        · refine ob_val (want_is hEA (g := 5) (x := false) (b := false) rfl rfl rfl rfl) (by kernel_rfl) (fun ph w' hp hpm hw => ?_)
          have e30 : Fr.tmps[30]? = some (.bool true) := hEA.dst 9 _ 30 rfl rfl; have e32 : Fr.tmps[32]? = some (.bool true) := hEA.dst 11 _ 32 rfl rfl; simp [execOp, e30, e32, go_sem]
        · refine ob_val (want_is hEA (g := 1) (x := true) (b := true) rfl rfl rfl rfl) (by kernel_rfl) (fun ph w' hp hpm hw => ?_)
          have e26 : Fr.tmps[26]? = some (.bool false) := hEA.dst 5 _ 26 rfl rfl; have e33 : Fr.tmps[33]? = some (.bool true) := hEA.dst 12 _ 33 rfl rfl; simp [execOp, e26, e33, go_sem]
        · refine ob_val (want_none rfl) (by kernel_rfl) (fun ph w' hp hpm hw => ?_)
          have e22 : Fr.tmps[22]? = some (.bool true) := hEA.dst 1 _ 22 rfl rfl; have e34 : Fr.tmps[34]? = some (.bool true) := hEA.dst 13 _ 34 rfl rfl; simp [execOp, e22, e34, go_sem]
        · exact ob_move _ rfl (want_none rfl) (by kernel_rfl) (eval_dst hEA (j := 14) rfl rfl)
        · refine ob_val (want_is hEA (g := 15) (x := true) (b := true) rfl rfl rfl rfl) (by kernel_rfl) (fun ph w' hp hpm hw => ?_)
          have hc0 := (hw.cell (p := ⟨w.heap.size + 1, 0, none⟩) bv.lt).trans (bv.c 0 _ rfl)
          have hc1 := (hw.cell (p := ⟨w.heap.size + 1, 1, none⟩) bv.lt).trans (bv.c 1 _ rfl)
          have hc2 := (hw.cell (p := ⟨w.heap.size + 1, 2, none⟩) bv.lt).trans (bv.c 2 _ rfl)
          have e3 : Fr.tmps[3]? = some (.pointer (some ⟨w.heap.size + 1, 0, none⟩)) := at_out hEA (d := 3) (by kernel_rfl); simp [execOp, e3, hc0, hc1, hc2, go_sem]
        · refine ob_call (q := 3) (f := 15) (args := #[.agg #[.int .i64 c, .int .i64 d, .int .i64 u]]) (want_is hEA (g := 15) (x := true) (b := true) rfl rfl rfl rfl) (by kernel_rfl) (fun w' => by have e37 : Fr.tmps[37]? = some (.agg #[.int .i64 c, .int .i64 d, .int .i64 u]) := hEA.dst 16 _ 37 rfl rfl; simp [e37, go_sem]) ?_
          intro w' hw
          refine (Calls.mono (R := fun E W' => E = .returned (.bool false) ∧ Below w'.heap.size w' W') (by have := id_any c d u w'; rwa [hv] at this) ?_)
          rintro e w2 ⟨rfl, hb⟩
          exact ⟨rfl, hw.trans (hb.mono hw.size)⟩
        · refine ob_val (want_is hEA (g := 15) (x := true) (b := true) rfl rfl rfl rfl) (by kernel_rfl) (fun ph w' hp hpm hw => ?_)
          have e38 : Fr.tmps[38]? = some (.bool false) := hEA.dst 17 _ 38 rfl rfl; simp [execOp, e38, go_sem]
        · exact ob_move _ rfl (want_is hEA (g := 15) (x := true) (b := true) rfl rfl rfl rfl) (by kernel_rfl) (eval_dst hEA (j := 18) rfl rfl)
        · exact ob_skip (want_is hEA (g := 19) (x := true) (b := false) rfl rfl rfl rfl) (by kernel_rfl) rfl
        · exact ob_skip (want_is hEA (g := 19) (x := true) (b := false) rfl rfl rfl rfl) (by kernel_rfl) rfl
        · exact ob_skip (want_is hEA (g := 19) (x := true) (b := false) rfl rfl rfl rfl) (by kernel_rfl) rfl
        · exact ob_skip (want_is hEA (g := 19) (x := true) (b := false) rfl rfl rfl rfl) (by kernel_rfl) rfl
        · exact ob_skip (want_undef hEA (g := 23) rfl rfl rfl rfl) (by kernel_rfl) rfl
        · exact ob_skip (want_undef hEA (g := 23) rfl rfl rfl rfl) (by kernel_rfl) rfl
        · exact ob_skip (want_is hEA (g := 19) (x := true) (b := false) rfl rfl rfl rfl) (by kernel_rfl) rfl
        · refine ob_val (want_is hEA (g := 15) (x := true) (b := true) rfl rfl rfl rfl) (by kernel_rfl) (fun ph w' hp hpm hw => ?_)
          have e40 : Fr.tmps[40]? = some (.bool true) := hEA.dst 19 _ 40 rfl rfl; have e47 : Fr.tmps[47]? = some (undef) := hEA.dst 26 _ 47 rfl rfl; simp [execOp, e40, e47, go_sem]
        · refine ob_val (want_none rfl) (by kernel_rfl) (fun ph w' hp hpm hw => ?_)
          have e36 : Fr.tmps[36]? = some (.bool true) := hEA.dst 15 _ 36 rfl rfl; have e48 : Fr.tmps[48]? = some (.bool true) := hEA.dst 27 _ 48 rfl rfl; simp [execOp, e36, e48, go_sem]
        · exact ob_move _ rfl (want_none rfl) (by kernel_rfl) (eval_dst hEA (j := 28) rfl rfl)
        · exact ob_move _ rfl (want_is hEA (g := 29) (x := true) (b := true) rfl rfl rfl rfl) (by kernel_rfl) (eval_out hEA (d := 5) (by kernel_rfl))
        · refine ob_val (want_is hEA (g := 29) (x := true) (b := true) rfl rfl rfl rfl) (by kernel_rfl) (fun ph w' hp hpm hw => ?_)
          have e51 : Fr.tmps[51]? = some (.pointer (some ⟨ga, 0, none⟩)) := hEA.dst 30 _ 51 rfl rfl; simp [execOp, e51, go_sem]
        · refine ob_val (want_is hEA (g := 29) (x := true) (b := true) rfl rfl rfl rfl) (by kernel_rfl) (fun ph w' hp hpm hw => ?_)
          have e52 : Fr.tmps[52]? = some (.pointer (some ⟨ga, 0, none⟩)) := hEA.dst 31 _ 52 rfl rfl; simp [execOp, e52, go_sem]
        · refine ob_val (want_is hEA (g := 29) (x := true) (b := true) rfl rfl rfl rfl) (by kernel_rfl) (fun ph w' hp hpm hw => ?_)
          have hc0 := (hw.cell (p := ⟨ga, 1, none⟩) la.lt).trans bA
          have e53 : Fr.tmps[53]? = some (.pointer (some ⟨ga, 1, none⟩)) := hEA.dst 32 _ 53 rfl rfl; simp [execOp, e53, hc0, go_sem]
        · refine ob_val (want_is hEA (g := 29) (x := true) (b := true) rfl rfl rfl rfl) (by kernel_rfl) (fun ph w' hp hpm hw => ?_)
          have e54 : Fr.tmps[54]? = some (.bool false) := hEA.dst 33 _ 54 rfl rfl; simp [execOp, e54, go_sem]
        · exact ob_move _ rfl (want_is hEA (g := 29) (x := true) (b := true) rfl rfl rfl rfl) (by kernel_rfl) (eval_dst hEA (j := 34) rfl rfl)
        · exact ob_skip (want_is hEA (g := 35) (x := true) (b := false) rfl rfl rfl rfl) (by kernel_rfl) rfl
        · exact ob_skip (want_is hEA (g := 35) (x := true) (b := false) rfl rfl rfl rfl) (by kernel_rfl) rfl
        · exact ob_skip (want_is hEA (g := 35) (x := true) (b := false) rfl rfl rfl rfl) (by kernel_rfl) rfl
        · refine ob_val (want_is hEA (g := 29) (x := true) (b := true) rfl rfl rfl rfl) (by kernel_rfl) (fun ph w' hp hpm hw => ?_)
          have e56 : Fr.tmps[56]? = some (.bool true) := hEA.dst 35 _ 56 rfl rfl; have e59 : Fr.tmps[59]? = some (undef) := hEA.dst 38 _ 59 rfl rfl; simp [execOp, e56, e59, go_sem]
        · refine ob_val (want_none rfl) (by kernel_rfl) (fun ph w' hp hpm hw => ?_)
          have e50 : Fr.tmps[50]? = some (.bool true) := hEA.dst 29 _ 50 rfl rfl; have e60 : Fr.tmps[60]? = some (.bool true) := hEA.dst 39 _ 60 rfl rfl; simp [execOp, e50, e60, go_sem]
        · exact ob_move _ rfl (want_none rfl) (by kernel_rfl) (eval_dst hEA (j := 40) rfl rfl)
        · exact ob_move _ rfl (want_is hEA (g := 41) (x := true) (b := true) rfl rfl rfl rfl) (by kernel_rfl) (eval_out hEA (d := 6) (by kernel_rfl))
        · refine ob_val (want_is hEA (g := 41) (x := true) (b := true) rfl rfl rfl rfl) (by kernel_rfl) (fun ph w' hp hpm hw => ?_)
          have e63 : Fr.tmps[63]? = some (.pointer (some ⟨gb, 0, none⟩)) := hEA.dst 42 _ 63 rfl rfl; simp [execOp, e63, go_sem]
        · refine ob_val (want_is hEA (g := 41) (x := true) (b := true) rfl rfl rfl rfl) (by kernel_rfl) (fun ph w' hp hpm hw => ?_)
          have e64 : Fr.tmps[64]? = some (.pointer (some ⟨gb, 0, none⟩)) := hEA.dst 43 _ 64 rfl rfl; simp [execOp, e64, go_sem]
        · refine ob_val (want_is hEA (g := 41) (x := true) (b := true) rfl rfl rfl rfl) (by kernel_rfl) (fun ph w' hp hpm hw => ?_)
          have hc0 := (hw.cell (p := ⟨gb, 1, none⟩) lb.lt).trans bB
          have e65 : Fr.tmps[65]? = some (.pointer (some ⟨gb, 1, none⟩)) := hEA.dst 44 _ 65 rfl rfl; simp [execOp, e65, hc0, go_sem]
        · refine ob_val (want_is hEA (g := 41) (x := true) (b := true) rfl rfl rfl rfl) (by kernel_rfl) (fun ph w' hp hpm hw => ?_)
          have e66 : Fr.tmps[66]? = some (.bool true) := hEA.dst 45 _ 66 rfl rfl; simp [execOp, e66, go_sem]
        · exact ob_move _ rfl (want_is hEA (g := 41) (x := true) (b := true) rfl rfl rfl rfl) (by kernel_rfl) (eval_dst hEA (j := 46) rfl rfl)
        · refine ob_val (want_is hEA (g := 47) (x := false) (b := false) rfl rfl rfl rfl) (by kernel_rfl) (fun ph w' hp hpm hw => ?_)
          have hc0 := (hw.cell (p := ⟨W4.heap.size + 1, 0, none⟩) bY.lt).trans (bY.c 0 _ rfl)
          have hc1 := (hw.cell (p := ⟨W4.heap.size + 1, 1, none⟩) bY.lt).trans (bY.c 1 _ rfl)
          have hc2 := (hw.cell (p := ⟨W4.heap.size + 1, 2, none⟩) bY.lt).trans (bY.c 2 _ rfl)
          have e8 : Fr.tmps[8]? = some (.pointer (some ⟨W4.heap.size + 1, 0, none⟩)) := at_out hEA (d := 8) (by kernel_rfl); simp [execOp, e8, hc0, hc1, hc2, go_sem]
        · refine ob_val (want_is hEA (g := 47) (x := false) (b := false) rfl rfl rfl rfl) (by kernel_rfl) (fun ph w' hp hpm hw => ?_)
          simp [execOp, go_sem]
        · refine ob_val (want_is hEA (g := 47) (x := false) (b := false) rfl rfl rfl rfl) (by kernel_rfl) (fun ph w' hp hpm hw => ?_)
          have e69 : Fr.tmps[69]? = some (.agg #[.int .i64 0, .int .i64 0, .int .i64 0]) := hEA.dst 48 _ 69 rfl rfl; have e70 : Fr.tmps[70]? = some (.agg #[.int .i64 0, .int .i64 0, .int .i64 0]) := hEA.dst 49 _ 70 rfl rfl; simp [execOp, e69, e70, go_sem]
        · refine ob_val (want_is hEA (g := 41) (x := true) (b := true) rfl rfl rfl rfl) (by kernel_rfl) (fun ph w' hp hpm hw => ?_)
          have e68 : Fr.tmps[68]? = some (.bool false) := hEA.dst 47 _ 68 rfl rfl; have e71 : Fr.tmps[71]? = some (.bool true) := hEA.dst 50 _ 71 rfl rfl; simp [execOp, e68, e71, go_sem]
        · refine ob_val (want_none rfl) (by kernel_rfl) (fun ph w' hp hpm hw => ?_)
          have e62 : Fr.tmps[62]? = some (.bool true) := hEA.dst 41 _ 62 rfl rfl; have e72 : Fr.tmps[72]? = some (.bool true) := hEA.dst 51 _ 72 rfl rfl; simp [execOp, e62, e72, go_sem]
        · exact ob_move _ rfl (want_none rfl) (by kernel_rfl) (eval_dst hEA (j := 52) rfl rfl)
        · exact ob_move _ rfl (want_is hEA (g := 53) (x := true) (b := true) rfl rfl rfl rfl) (by kernel_rfl) (eval_out hEA (d := 5) (by kernel_rfl))
        · refine ob_val (want_is hEA (g := 53) (x := true) (b := true) rfl rfl rfl rfl) (by kernel_rfl) (fun ph w' hp hpm hw => ?_)
          have e75 : Fr.tmps[75]? = some (.pointer (some ⟨ga, 0, none⟩)) := hEA.dst 54 _ 75 rfl rfl; simp [execOp, e75, go_sem]
        · refine ob_val (want_is hEA (g := 53) (x := true) (b := true) rfl rfl rfl rfl) (by kernel_rfl) (fun ph w' hp hpm hw => ?_)
          have e76 : Fr.tmps[76]? = some (.pointer (some ⟨ga, 0, none⟩)) := hEA.dst 55 _ 76 rfl rfl; simp [execOp, e76, go_sem]
        · refine ob_val (want_is hEA (g := 53) (x := true) (b := true) rfl rfl rfl rfl) (by kernel_rfl) (fun ph w' hp hpm hw => ?_)
          have hc0 := (hw.cell (p := ⟨ga, 1, none⟩) la.lt).trans bA
          have e77 : Fr.tmps[77]? = some (.pointer (some ⟨ga, 1, none⟩)) := hEA.dst 56 _ 77 rfl rfl; simp [execOp, e77, hc0, go_sem]
        · exact ob_move _ rfl (want_is hEA (g := 53) (x := true) (b := true) rfl rfl rfl rfl) (by kernel_rfl) (eval_dst hEA (j := 57) rfl rfl)
        · refine ob_val (want_is hEA (g := 58) (x := false) (b := false) rfl rfl rfl rfl) (by kernel_rfl) (fun ph w' hp hpm hw => ?_)
          have hc0 := (hw.cell (p := ⟨W4.heap.size, 0, none⟩) bx.lt).trans (bx.c 0 _ rfl)
          have hc1 := (hw.cell (p := ⟨W4.heap.size, 1, none⟩) bx.lt).trans (bx.c 1 _ rfl)
          have e7 : Fr.tmps[7]? = some (.pointer (some ⟨W4.heap.size, 0, none⟩)) := at_out hEA (d := 7) (by kernel_rfl); simp [execOp, e7, hc0, hc1, go_sem]
        · refine ob_call (q := 4) (f := 11) (args := #[.agg #[.int .i64 a, .int .i64 b]]) (want_is hEA (g := 58) (x := false) (b := false) rfl rfl rfl rfl) (by kernel_rfl) (fun w' => by have e80 : Fr.tmps[80]? = some (.agg #[.int .i64 a, .int .i64 b]) := hEA.dst 59 _ 80 rfl rfl; simp [e80, go_sem]) ?_
          intro w' hw
          refine (Calls.mono (R := fun E W' => E = .returned (.bool true) ∧ Below w'.heap.size w' W') (by have := mright_any a b w'; rwa [hk] at this) ?_)
          rintro e w2 ⟨rfl, hb⟩
          exact ⟨rfl, hw.trans (hb.mono hw.size)⟩
        · refine ob_val (want_is hEA (g := 53) (x := true) (b := true) rfl rfl rfl rfl) (by kernel_rfl) (fun ph w' hp hpm hw => ?_)
          have e79 : Fr.tmps[79]? = some (.bool false) := hEA.dst 58 _ 79 rfl rfl; have e81 : Fr.tmps[81]? = some (.bool true) := hEA.dst 60 _ 81 rfl rfl; simp [execOp, e79, e81, go_sem]
        · refine ob_val (want_none rfl) (by kernel_rfl) (fun ph w' hp hpm hw => ?_)
          have e74 : Fr.tmps[74]? = some (.bool true) := hEA.dst 53 _ 74 rfl rfl; have e82 : Fr.tmps[82]? = some (.bool true) := hEA.dst 61 _ 82 rfl rfl; simp [execOp, e74, e82, go_sem]
        · exact ob_move _ rfl (want_none rfl) (by kernel_rfl) (eval_dst hEA (j := 62) rfl rfl)
        · exact ob_move _ rfl (want_is hEA (g := 63) (x := true) (b := true) rfl rfl rfl rfl) (by kernel_rfl) (eval_out hEA (d := 6) (by kernel_rfl))
        · refine ob_val (want_is hEA (g := 63) (x := true) (b := true) rfl rfl rfl rfl) (by kernel_rfl) (fun ph w' hp hpm hw => ?_)
          have e85 : Fr.tmps[85]? = some (.pointer (some ⟨gb, 0, none⟩)) := hEA.dst 64 _ 85 rfl rfl; simp [execOp, e85, go_sem]
        · refine ob_val (want_is hEA (g := 63) (x := true) (b := true) rfl rfl rfl rfl) (by kernel_rfl) (fun ph w' hp hpm hw => ?_)
          have e86 : Fr.tmps[86]? = some (.pointer (some ⟨gb, 0, none⟩)) := hEA.dst 65 _ 86 rfl rfl; simp [execOp, e86, go_sem]
        · refine ob_val (want_is hEA (g := 63) (x := true) (b := true) rfl rfl rfl rfl) (by kernel_rfl) (fun ph w' hp hpm hw => ?_)
          have hc0 := (hw.cell (p := ⟨gb, 1, none⟩) lb.lt).trans bB
          have e87 : Fr.tmps[87]? = some (.pointer (some ⟨gb, 1, none⟩)) := hEA.dst 66 _ 87 rfl rfl; simp [execOp, e87, hc0, go_sem]
        · exact ob_move _ rfl (want_is hEA (g := 63) (x := true) (b := true) rfl rfl rfl rfl) (by kernel_rfl) (eval_dst hEA (j := 67) rfl rfl)
        · exact ob_skip (want_is hEA (g := 68) (x := true) (b := false) rfl rfl rfl rfl) (by kernel_rfl) rfl
        · exact ob_skip (want_is hEA (g := 68) (x := true) (b := false) rfl rfl rfl rfl) (by kernel_rfl) rfl
        · refine ob_val (want_is hEA (g := 63) (x := true) (b := true) rfl rfl rfl rfl) (by kernel_rfl) (fun ph w' hp hpm hw => ?_)
          have e89 : Fr.tmps[89]? = some (.bool true) := hEA.dst 68 _ 89 rfl rfl; have e91 : Fr.tmps[91]? = some (undef) := hEA.dst 70 _ 91 rfl rfl; simp [execOp, e89, e91, go_sem]
        · refine ob_val (want_none rfl) (by kernel_rfl) (fun ph w' hp hpm hw => ?_)
          have e84 : Fr.tmps[84]? = some (.bool true) := hEA.dst 63 _ 84 rfl rfl; have e92 : Fr.tmps[92]? = some (.bool true) := hEA.dst 71 _ 92 rfl rfl; simp [execOp, e84, e92, go_sem]
        · refine ob_val (want_none rfl) (by kernel_rfl) (fun ph w' hp hpm hw => ?_)
          have e93 : Fr.tmps[93]? = some (.bool true) := hEA.dst 72 _ 93 rfl rfl; simp [execOp, e93, go_sem]
      · intro w' hw
        simp only [laid, Act.put, List.setIfInBounds_toArray, List.set_cons_succ, List.set_cons_zero, List.getD_cons_succ, List.getD_cons_zero, Nat.zero_add, Nat.reduceAdd]
        go_wp2_with fail
        go_ret
        exact ⟨rfl, B5.trans (hw.mono B5.size)⟩
    ·
      have bA : W5.cell? ⟨ga, 1, none⟩ = some (.bool false) := la.bad
      have bB : W5.cell? ⟨gb, 1, none⟩ = some (.bool false) := lb.bad
      refine wp_region_line (fun i => ([.bool true, .bool true, .agg #[.int .i64 a, .int .i64 b], .bool true, .bool false, .bool false, .agg #[.int .i64 a, .int .i64 b], .agg #[.int .i64 a, .int .i64 b], .bool true, .bool true, .pointer (some ⟨ga, 0, none⟩), .bool true, .bool true, .bool true, .bool true, .bool true, .agg #[.int .i64 c, .int .i64 d, .int .i64 u], .bool false, .bool true, .bool true, undef, undef, undef, undef, undef, undef, undef, .bool true, .bool true, .bool true, .pointer (some ⟨ga, 0, none⟩), .pointer (some ⟨ga, 0, none⟩), .pointer (some ⟨ga, 1, none⟩), .bool false, .bool true, .bool true, undef, undef, undef, .bool true, .bool true, .bool true, .pointer (some ⟨gb, 0, none⟩), .pointer (some ⟨gb, 0, none⟩), .pointer (some ⟨gb, 1, none⟩), .bool false, .bool true, .bool true, undef, undef, undef, .bool true, .bool true, .bool true, .pointer (some ⟨ga, 0, none⟩), .pointer (some ⟨ga, 0, none⟩), .pointer (some ⟨ga, 1, none⟩), .bool false, .bool false, .agg #[.int .i64 a, .int .i64 b], .bool true, .bool true, .bool true, .bool true, .pointer (some ⟨gb, 0, none⟩), .pointer (some ⟨gb, 0, none⟩), .pointer (some ⟨gb, 1, none⟩), .bool false, .bool false, .agg #[.int .i64 y0, .int .i64 y1, .int .i64 y2], .bool true, .bool true, .bool true, .bool true] : List Value).getD i undef) [0, 3, 11, 17, 60, 70] [0, 1, 1, 1, 2, 2, 2, 2, 2, 2, 2, 2, 3, 3, 3, 3, 3, 3, 4, 4, 4, 4, 4, 4, 4, 4, 4, 4, 4, 4, 4, 4, 4, 4, 4, 4, 4, 4, 4, 4, 4, 4, 4, 4, 4, 4, 4, 4, 4, 4, 4, 4, 4, 4, 4, 4, 4, 4, 4, 4, 4, 5, 5, 5, 5, 5, 5, 5, 5, 5, 5, 6, 6, 6] (fun _ w' => Below W5.heap.size W5 w') (by kernel_rfl) (⟨rfl, rfl, rfl, Nat.le_refl _, fun _ _ => rfl⟩) ?_ ?_
      · refine Obs_of_endsL (by kernel_rfl) ?_
        intro Fr hEA
        refine ⟨?_, ?_, ?_, ?_, ?_, ?_, ?_, ?_, ?_, ?_, ?_, ?_, ?_, ?_, ?_, ?_, ?_, ?_, ?_, ?_, ?_, ?_, ?_, ?_, ?_, ?_, ?_, ?_, ?_, ?_, ?_, ?_, ?_, ?_, ?_, ?_, ?_, ?_, ?_, ?_, ?_, ?_, ?_, ?_, ?_, ?_, ?_, ?_, ?_, ?_, ?_, ?_, ?_, ?_, ?_, ?_, ?_, ?_, ?_, ?_, ?_, ?_, ?_, ?_, ?_, ?_, ?_, ?_, ?_, ?_, ?_, ?_, ?_, ?_, trivial⟩
        · refine ob_call (q := 0) (f := 8) (args := #[]) (want_none rfl) (by kernel_rfl) (fun w' => by simp [go_sem]) ?_
          intro w' hw
          refine (Calls.mono (R := fun E W' => E = .returned (.bool true) ∧ Below w'.heap.size w' W') (awake8_any w') ?_)
          rintro e w2 ⟨rfl, hb⟩
          exact ⟨rfl, hw.trans (hb.mono hw.size)⟩
        · exact ob_move _ rfl (want_none rfl) (by kernel_rfl) (eval_dst hEA (j := 0) rfl rfl)
        · refine ob_val (want_is hEA (g := 1) (x := true) (b := true) rfl rfl rfl rfl) (by kernel_rfl) (fun ph w' hp hpm hw => ?_)
          have hc0 := (hw.cell (p := ⟨w.heap.size, 0, none⟩) bm.lt).trans (bm.c 0 _ rfl)
          have hc1 := (hw.cell (p := ⟨w.heap.size, 1, none⟩) bm.lt).trans (bm.c 1 _ rfl)
          have e2 : Fr.tmps[2]? = some (.pointer (some ⟨w.heap.size, 0, none⟩)) := at_out hEA (d := 2) (by kernel_rfl); simp [execOp, e2, hc0, hc1, go_sem]
        · refine ob_call (q := 1) (f := 11) (args := #[.agg #[.int .i64 a, .int .i64 b]]) (want_is hEA (g := 1) (x := true) (b := true) rfl rfl rfl rfl) (by kernel_rfl) (fun w' => by have e23 : Fr.tmps[23]? = some (.agg #[.int .i64 a, .int .i64 b]) := hEA.dst 2 _ 23 rfl rfl; simp [e23, go_sem]) ?_
          intro w' hw
          refine (Calls.mono (R := fun E W' => E = .returned (.bool true) ∧ Below w'.heap.size w' W') (by have := mright_any a b w'; rwa [hk] at this) ?_)
          rintro e w2 ⟨rfl, hb⟩
          exact ⟨rfl, hw.trans (hb.mono hw.size)⟩
        · refine ob_val (want_is hEA (g := 1) (x := true) (b := true) rfl rfl rfl rfl) (by kernel_rfl) (fun ph w' hp hpm hw => ?_)
          have e24 : Fr.tmps[24]? = some (.bool true) := hEA.dst 3 _ 24 rfl rfl; simp [execOp, e24, go_sem]
        · exact ob_move _ rfl (want_is hEA (g := 1) (x := true) (b := true) rfl rfl rfl rfl) (by kernel_rfl) (eval_dst hEA (j := 4) rfl rfl)
        · refine ob_val (want_is hEA (g := 5) (x := false) (b := false) rfl rfl rfl rfl) (by kernel_rfl) (fun ph w' hp hpm hw => ?_)
          have hc0 := (hw.cell (p := ⟨W4.heap.size, 0, none⟩) bx.lt).trans (bx.c 0 _ rfl)
          have hc1 := (hw.cell (p := ⟨W4.heap.size, 1, none⟩) bx.lt).trans (bx.c 1 _ rfl)
          have e7 : Fr.tmps[7]? = some (.pointer (some ⟨W4.heap.size, 0, none⟩)) := at_out hEA (d := 7) (by kernel_rfl); simp [execOp, e7, hc0, hc1, go_sem]
        · refine ob_val (want_is hEA (g := 5) (x := false) (b := false) rfl rfl rfl rfl) (by kernel_rfl) (fun ph w' hp hpm hw => ?_)
          have hc0 := (hw.cell (p := ⟨w.heap.size, 0, none⟩) bm.lt).trans (bm.c 0 _ rfl)
          have hc1 := (hw.cell (p := ⟨w.heap.size, 1, none⟩) bm.lt).trans (bm.c 1 _ rfl)
          have e2 : Fr.tmps[2]? = some (.pointer (some ⟨w.heap.size, 0, none⟩)) := at_out hEA (d := 2) (by kernel_rfl); simp [execOp, e2, hc0, hc1, go_sem]
        · refine ob_val (want_is hEA (g := 5) (x := false) (b := false) rfl rfl rfl rfl) (by kernel_rfl) (fun ph w' hp hpm hw => ?_)
          have e27 : Fr.tmps[27]? = some (.agg #[.int .i64 a, .int .i64 b]) := hEA.dst 6 _ 27 rfl rfl; have e28 : Fr.tmps[28]? = some (.agg #[.int .i64 a, .int .i64 b]) := hEA.dst 7 _ 28 rfl rfl; simp [execOp, e27, e28, go_sem]
        · exact ob_move _ rfl (want_is hEA (g := 5) (x := false) (b := false) rfl rfl rfl rfl) (by kernel_rfl) (eval_dst hEA (j := 8) rfl rfl)
        · exact ob_move _ rfl (want_is hEA (g := 9) (x := true) (b := true) rfl rfl rfl rfl) (by kernel_rfl) (eval_out hEA (d := 5) (by kernel_rfl))
        · refine ob_call (q := 2) (f := 27) (args := #[.pointer (some ⟨ga, 0, none⟩)]) (want_is hEA (g := 9) (x := true) (b := true) rfl rfl rfl rfl) (by kernel_rfl) (fun w' => by have e31 : Fr.tmps[31]? = some (.pointer (some ⟨ga, 0, none⟩)) := hEA.dst 10 _ 31 rfl rfl; simp [e31, go_sem]) ?_
          intro w' hw
          refine (leftDone_st ga 100 (some []) w' (la.next hw)).mono ?_
          rintro e w2 ⟨rfl, rfl⟩
          exact ⟨rfl, hw⟩
        · refine ob_val (want_is hEA (g := 5) (x := false) (b := false) rfl rfl rfl rfl) (by kernel_rfl) (fun ph w' hp hpm hw => ?_)
          have e30 : Fr.tmps[30]? = some (.bool true) := hEA.dst 9 _ 30 rfl rfl; have e32 : Fr.tmps[32]? = some (.bool true) := hEA.dst 11 _ 32 rfl rfl; simp [execOp, e30, e32, go_sem]
        · refine ob_val (want_is hEA (g := 1) (x := true) (b := true) rfl rfl rfl rfl) (by kernel_rfl) (fun ph w' hp hpm hw => ?_)
          have e26 : Fr.tmps[26]? = some (.bool false) := hEA.dst 5 _ 26 rfl rfl; have e33 : Fr.tmps[33]? = some (.bool true) := hEA.dst 12 _ 33 rfl rfl; simp [execOp, e26, e33, go_sem]
        · refine ob_val (want_none rfl) (by kernel_rfl) (fun ph w' hp hpm hw => ?_)
          have e22 : Fr.tmps[22]? = some (.bool true) := hEA.dst 1 _ 22 rfl rfl; have e34 : Fr.tmps[34]? = some (.bool true) := hEA.dst 13 _ 34 rfl rfl; simp [execOp, e22, e34, go_sem]
        · exact ob_move _ rfl (want_none rfl) (by kernel_rfl) (eval_dst hEA (j := 14) rfl rfl)
        · refine ob_val (want_is hEA (g := 15) (x := true) (b := true) rfl rfl rfl rfl) (by kernel_rfl) (fun ph w' hp hpm hw => ?_)
          have hc0 := (hw.cell (p := ⟨w.heap.size + 1, 0, none⟩) bv.lt).trans (bv.c 0 _ rfl)
          have hc1 := (hw.cell (p := ⟨w.heap.size + 1, 1, none⟩) bv.lt).trans (bv.c 1 _ rfl)
          have hc2 := (hw.cell (p := ⟨w.heap.size + 1, 2, none⟩) bv.lt).trans (bv.c 2 _ rfl)
          have e3 : Fr.tmps[3]? = some (.pointer (some ⟨w.heap.size + 1, 0, none⟩)) := at_out hEA (d := 3) (by kernel_rfl); simp [execOp, e3, hc0, hc1, hc2, go_sem]
        · refine ob_call (q := 3) (f := 15) (args := #[.agg #[.int .i64 c, .int .i64 d, .int .i64 u]]) (want_is hEA (g := 15) (x := true) (b := true) rfl rfl rfl rfl) (by kernel_rfl) (fun w' => by have e37 : Fr.tmps[37]? = some (.agg #[.int .i64 c, .int .i64 d, .int .i64 u]) := hEA.dst 16 _ 37 rfl rfl; simp [e37, go_sem]) ?_
          intro w' hw
          refine (Calls.mono (R := fun E W' => E = .returned (.bool false) ∧ Below w'.heap.size w' W') (by have := id_any c d u w'; rwa [hv] at this) ?_)
          rintro e w2 ⟨rfl, hb⟩
          exact ⟨rfl, hw.trans (hb.mono hw.size)⟩
        · refine ob_val (want_is hEA (g := 15) (x := true) (b := true) rfl rfl rfl rfl) (by kernel_rfl) (fun ph w' hp hpm hw => ?_)
          have e38 : Fr.tmps[38]? = some (.bool false) := hEA.dst 17 _ 38 rfl rfl; simp [execOp, e38, go_sem]
        · exact ob_move _ rfl (want_is hEA (g := 15) (x := true) (b := true) rfl rfl rfl rfl) (by kernel_rfl) (eval_dst hEA (j := 18) rfl rfl)
        · exact ob_skip (want_is hEA (g := 19) (x := true) (b := false) rfl rfl rfl rfl) (by kernel_rfl) rfl
        · exact ob_skip (want_is hEA (g := 19) (x := true) (b := false) rfl rfl rfl rfl) (by kernel_rfl) rfl
        · exact ob_skip (want_is hEA (g := 19) (x := true) (b := false) rfl rfl rfl rfl) (by kernel_rfl) rfl
        · exact ob_skip (want_is hEA (g := 19) (x := true) (b := false) rfl rfl rfl rfl) (by kernel_rfl) rfl
        · exact ob_skip (want_undef hEA (g := 23) rfl rfl rfl rfl) (by kernel_rfl) rfl
        · exact ob_skip (want_undef hEA (g := 23) rfl rfl rfl rfl) (by kernel_rfl) rfl
        · exact ob_skip (want_is hEA (g := 19) (x := true) (b := false) rfl rfl rfl rfl) (by kernel_rfl) rfl
        · refine ob_val (want_is hEA (g := 15) (x := true) (b := true) rfl rfl rfl rfl) (by kernel_rfl) (fun ph w' hp hpm hw => ?_)
          have e40 : Fr.tmps[40]? = some (.bool true) := hEA.dst 19 _ 40 rfl rfl; have e47 : Fr.tmps[47]? = some (undef) := hEA.dst 26 _ 47 rfl rfl; simp [execOp, e40, e47, go_sem]
        · refine ob_val (want_none rfl) (by kernel_rfl) (fun ph w' hp hpm hw => ?_)
          have e36 : Fr.tmps[36]? = some (.bool true) := hEA.dst 15 _ 36 rfl rfl; have e48 : Fr.tmps[48]? = some (.bool true) := hEA.dst 27 _ 48 rfl rfl; simp [execOp, e36, e48, go_sem]
        · exact ob_move _ rfl (want_none rfl) (by kernel_rfl) (eval_dst hEA (j := 28) rfl rfl)
        · exact ob_move _ rfl (want_is hEA (g := 29) (x := true) (b := true) rfl rfl rfl rfl) (by kernel_rfl) (eval_out hEA (d := 5) (by kernel_rfl))
        · refine ob_val (want_is hEA (g := 29) (x := true) (b := true) rfl rfl rfl rfl) (by kernel_rfl) (fun ph w' hp hpm hw => ?_)
          have e51 : Fr.tmps[51]? = some (.pointer (some ⟨ga, 0, none⟩)) := hEA.dst 30 _ 51 rfl rfl; simp [execOp, e51, go_sem]
        · refine ob_val (want_is hEA (g := 29) (x := true) (b := true) rfl rfl rfl rfl) (by kernel_rfl) (fun ph w' hp hpm hw => ?_)
          have e52 : Fr.tmps[52]? = some (.pointer (some ⟨ga, 0, none⟩)) := hEA.dst 31 _ 52 rfl rfl; simp [execOp, e52, go_sem]
        · refine ob_val (want_is hEA (g := 29) (x := true) (b := true) rfl rfl rfl rfl) (by kernel_rfl) (fun ph w' hp hpm hw => ?_)
          have hc0 := (hw.cell (p := ⟨ga, 1, none⟩) la.lt).trans bA
          have e53 : Fr.tmps[53]? = some (.pointer (some ⟨ga, 1, none⟩)) := hEA.dst 32 _ 53 rfl rfl; simp [execOp, e53, hc0, go_sem]
        · refine ob_val (want_is hEA (g := 29) (x := true) (b := true) rfl rfl rfl rfl) (by kernel_rfl) (fun ph w' hp hpm hw => ?_)
          have e54 : Fr.tmps[54]? = some (.bool false) := hEA.dst 33 _ 54 rfl rfl; simp [execOp, e54, go_sem]
        · exact ob_move _ rfl (want_is hEA (g := 29) (x := true) (b := true) rfl rfl rfl rfl) (by kernel_rfl) (eval_dst hEA (j := 34) rfl rfl)
        · exact ob_skip (want_is hEA (g := 35) (x := true) (b := false) rfl rfl rfl rfl) (by kernel_rfl) rfl
        · exact ob_skip (want_is hEA (g := 35) (x := true) (b := false) rfl rfl rfl rfl) (by kernel_rfl) rfl
        · exact ob_skip (want_is hEA (g := 35) (x := true) (b := false) rfl rfl rfl rfl) (by kernel_rfl) rfl
        · refine ob_val (want_is hEA (g := 29) (x := true) (b := true) rfl rfl rfl rfl) (by kernel_rfl) (fun ph w' hp hpm hw => ?_)
          have e56 : Fr.tmps[56]? = some (.bool true) := hEA.dst 35 _ 56 rfl rfl; have e59 : Fr.tmps[59]? = some (undef) := hEA.dst 38 _ 59 rfl rfl; simp [execOp, e56, e59, go_sem]
        · refine ob_val (want_none rfl) (by kernel_rfl) (fun ph w' hp hpm hw => ?_)
          have e50 : Fr.tmps[50]? = some (.bool true) := hEA.dst 29 _ 50 rfl rfl; have e60 : Fr.tmps[60]? = some (.bool true) := hEA.dst 39 _ 60 rfl rfl; simp [execOp, e50, e60, go_sem]
        · exact ob_move _ rfl (want_none rfl) (by kernel_rfl) (eval_dst hEA (j := 40) rfl rfl)
        · exact ob_move _ rfl (want_is hEA (g := 41) (x := true) (b := true) rfl rfl rfl rfl) (by kernel_rfl) (eval_out hEA (d := 6) (by kernel_rfl))
        · refine ob_val (want_is hEA (g := 41) (x := true) (b := true) rfl rfl rfl rfl) (by kernel_rfl) (fun ph w' hp hpm hw => ?_)
          have e63 : Fr.tmps[63]? = some (.pointer (some ⟨gb, 0, none⟩)) := hEA.dst 42 _ 63 rfl rfl; simp [execOp, e63, go_sem]
        · refine ob_val (want_is hEA (g := 41) (x := true) (b := true) rfl rfl rfl rfl) (by kernel_rfl) (fun ph w' hp hpm hw => ?_)
          have e64 : Fr.tmps[64]? = some (.pointer (some ⟨gb, 0, none⟩)) := hEA.dst 43 _ 64 rfl rfl; simp [execOp, e64, go_sem]
        · refine ob_val (want_is hEA (g := 41) (x := true) (b := true) rfl rfl rfl rfl) (by kernel_rfl) (fun ph w' hp hpm hw => ?_)
          have hc0 := (hw.cell (p := ⟨gb, 1, none⟩) lb.lt).trans bB
          have e65 : Fr.tmps[65]? = some (.pointer (some ⟨gb, 1, none⟩)) := hEA.dst 44 _ 65 rfl rfl; simp [execOp, e65, hc0, go_sem]
        · refine ob_val (want_is hEA (g := 41) (x := true) (b := true) rfl rfl rfl rfl) (by kernel_rfl) (fun ph w' hp hpm hw => ?_)
          have e66 : Fr.tmps[66]? = some (.bool false) := hEA.dst 45 _ 66 rfl rfl; simp [execOp, e66, go_sem]
        · exact ob_move _ rfl (want_is hEA (g := 41) (x := true) (b := true) rfl rfl rfl rfl) (by kernel_rfl) (eval_dst hEA (j := 46) rfl rfl)
        · exact ob_skip (want_is hEA (g := 47) (x := true) (b := false) rfl rfl rfl rfl) (by kernel_rfl) rfl
        · exact ob_skip (want_is hEA (g := 47) (x := true) (b := false) rfl rfl rfl rfl) (by kernel_rfl) rfl
        · exact ob_skip (want_is hEA (g := 47) (x := true) (b := false) rfl rfl rfl rfl) (by kernel_rfl) rfl
        · refine ob_val (want_is hEA (g := 41) (x := true) (b := true) rfl rfl rfl rfl) (by kernel_rfl) (fun ph w' hp hpm hw => ?_)
          have e68 : Fr.tmps[68]? = some (.bool true) := hEA.dst 47 _ 68 rfl rfl; have e71 : Fr.tmps[71]? = some (undef) := hEA.dst 50 _ 71 rfl rfl; simp [execOp, e68, e71, go_sem]
        · refine ob_val (want_none rfl) (by kernel_rfl) (fun ph w' hp hpm hw => ?_)
          have e62 : Fr.tmps[62]? = some (.bool true) := hEA.dst 41 _ 62 rfl rfl; have e72 : Fr.tmps[72]? = some (.bool true) := hEA.dst 51 _ 72 rfl rfl; simp [execOp, e62, e72, go_sem]
        · exact ob_move _ rfl (want_none rfl) (by kernel_rfl) (eval_dst hEA (j := 52) rfl rfl)
        · exact ob_move _ rfl (want_is hEA (g := 53) (x := true) (b := true) rfl rfl rfl rfl) (by kernel_rfl) (eval_out hEA (d := 5) (by kernel_rfl))
        · refine ob_val (want_is hEA (g := 53) (x := true) (b := true) rfl rfl rfl rfl) (by kernel_rfl) (fun ph w' hp hpm hw => ?_)
          have e75 : Fr.tmps[75]? = some (.pointer (some ⟨ga, 0, none⟩)) := hEA.dst 54 _ 75 rfl rfl; simp [execOp, e75, go_sem]
        · refine ob_val (want_is hEA (g := 53) (x := true) (b := true) rfl rfl rfl rfl) (by kernel_rfl) (fun ph w' hp hpm hw => ?_)
          have e76 : Fr.tmps[76]? = some (.pointer (some ⟨ga, 0, none⟩)) := hEA.dst 55 _ 76 rfl rfl; simp [execOp, e76, go_sem]
        · refine ob_val (want_is hEA (g := 53) (x := true) (b := true) rfl rfl rfl rfl) (by kernel_rfl) (fun ph w' hp hpm hw => ?_)
          have hc0 := (hw.cell (p := ⟨ga, 1, none⟩) la.lt).trans bA
          have e77 : Fr.tmps[77]? = some (.pointer (some ⟨ga, 1, none⟩)) := hEA.dst 56 _ 77 rfl rfl; simp [execOp, e77, hc0, go_sem]
        · exact ob_move _ rfl (want_is hEA (g := 53) (x := true) (b := true) rfl rfl rfl rfl) (by kernel_rfl) (eval_dst hEA (j := 57) rfl rfl)
        · refine ob_val (want_is hEA (g := 58) (x := false) (b := false) rfl rfl rfl rfl) (by kernel_rfl) (fun ph w' hp hpm hw => ?_)
          have hc0 := (hw.cell (p := ⟨W4.heap.size, 0, none⟩) bx.lt).trans (bx.c 0 _ rfl)
          have hc1 := (hw.cell (p := ⟨W4.heap.size, 1, none⟩) bx.lt).trans (bx.c 1 _ rfl)
          have e7 : Fr.tmps[7]? = some (.pointer (some ⟨W4.heap.size, 0, none⟩)) := at_out hEA (d := 7) (by kernel_rfl); simp [execOp, e7, hc0, hc1, go_sem]
        · refine ob_call (q := 4) (f := 11) (args := #[.agg #[.int .i64 a, .int .i64 b]]) (want_is hEA (g := 58) (x := false) (b := false) rfl rfl rfl rfl) (by kernel_rfl) (fun w' => by have e80 : Fr.tmps[80]? = some (.agg #[.int .i64 a, .int .i64 b]) := hEA.dst 59 _ 80 rfl rfl; simp [e80, go_sem]) ?_
          intro w' hw
          refine (Calls.mono (R := fun E W' => E = .returned (.bool true) ∧ Below w'.heap.size w' W') (by have := mright_any a b w'; rwa [hk] at this) ?_)
          rintro e w2 ⟨rfl, hb⟩
          exact ⟨rfl, hw.trans (hb.mono hw.size)⟩
        · refine ob_val (want_is hEA (g := 53) (x := true) (b := true) rfl rfl rfl rfl) (by kernel_rfl) (fun ph w' hp hpm hw => ?_)
          have e79 : Fr.tmps[79]? = some (.bool false) := hEA.dst 58 _ 79 rfl rfl; have e81 : Fr.tmps[81]? = some (.bool true) := hEA.dst 60 _ 81 rfl rfl; simp [execOp, e79, e81, go_sem]
        · refine ob_val (want_none rfl) (by kernel_rfl) (fun ph w' hp hpm hw => ?_)
          have e74 : Fr.tmps[74]? = some (.bool true) := hEA.dst 53 _ 74 rfl rfl; have e82 : Fr.tmps[82]? = some (.bool true) := hEA.dst 61 _ 82 rfl rfl; simp [execOp, e74, e82, go_sem]
        · exact ob_move _ rfl (want_none rfl) (by kernel_rfl) (eval_dst hEA (j := 62) rfl rfl)
        · exact ob_move _ rfl (want_is hEA (g := 63) (x := true) (b := true) rfl rfl rfl rfl) (by kernel_rfl) (eval_out hEA (d := 6) (by kernel_rfl))
        · refine ob_val (want_is hEA (g := 63) (x := true) (b := true) rfl rfl rfl rfl) (by kernel_rfl) (fun ph w' hp hpm hw => ?_)
          have e85 : Fr.tmps[85]? = some (.pointer (some ⟨gb, 0, none⟩)) := hEA.dst 64 _ 85 rfl rfl; simp [execOp, e85, go_sem]
        · refine ob_val (want_is hEA (g := 63) (x := true) (b := true) rfl rfl rfl rfl) (by kernel_rfl) (fun ph w' hp hpm hw => ?_)
          have e86 : Fr.tmps[86]? = some (.pointer (some ⟨gb, 0, none⟩)) := hEA.dst 65 _ 86 rfl rfl; simp [execOp, e86, go_sem]
        · refine ob_val (want_is hEA (g := 63) (x := true) (b := true) rfl rfl rfl rfl) (by kernel_rfl) (fun ph w' hp hpm hw => ?_)
          have hc0 := (hw.cell (p := ⟨gb, 1, none⟩) lb.lt).trans bB
          have e87 : Fr.tmps[87]? = some (.pointer (some ⟨gb, 1, none⟩)) := hEA.dst 66 _ 87 rfl rfl; simp [execOp, e87, hc0, go_sem]
        · exact ob_move _ rfl (want_is hEA (g := 63) (x := true) (b := true) rfl rfl rfl rfl) (by kernel_rfl) (eval_dst hEA (j := 67) rfl rfl)
        · refine ob_val (want_is hEA (g := 68) (x := false) (b := false) rfl rfl rfl rfl) (by kernel_rfl) (fun ph w' hp hpm hw => ?_)
          have hc0 := (hw.cell (p := ⟨W4.heap.size + 1, 0, none⟩) bY.lt).trans (bY.c 0 _ rfl)
          have hc1 := (hw.cell (p := ⟨W4.heap.size + 1, 1, none⟩) bY.lt).trans (bY.c 1 _ rfl)
          have hc2 := (hw.cell (p := ⟨W4.heap.size + 1, 2, none⟩) bY.lt).trans (bY.c 2 _ rfl)
          have e8 : Fr.tmps[8]? = some (.pointer (some ⟨W4.heap.size + 1, 0, none⟩)) := at_out hEA (d := 8) (by kernel_rfl); simp [execOp, e8, hc0, hc1, hc2, go_sem]
        · refine ob_call (q := 5) (f := 15) (args := #[.agg #[.int .i64 y0, .int .i64 y1, .int .i64 y2]]) (want_is hEA (g := 68) (x := false) (b := false) rfl rfl rfl rfl) (by kernel_rfl) (fun w' => by have e90 : Fr.tmps[90]? = some (.agg #[.int .i64 y0, .int .i64 y1, .int .i64 y2]) := hEA.dst 69 _ 90 rfl rfl; simp [e90, go_sem]) ?_
          intro w' hw
          refine (Calls.mono (R := fun E W' => E = .returned (.bool true) ∧ Below w'.heap.size w' W') (by have := id_any y0 y1 y2 w'; rwa [hy] at this) ?_)
          rintro e w2 ⟨rfl, hb⟩
          exact ⟨rfl, hw.trans (hb.mono hw.size)⟩
        · refine ob_val (want_is hEA (g := 63) (x := true) (b := true) rfl rfl rfl rfl) (by kernel_rfl) (fun ph w' hp hpm hw => ?_)
          have e89 : Fr.tmps[89]? = some (.bool false) := hEA.dst 68 _ 89 rfl rfl; have e91 : Fr.tmps[91]? = some (.bool true) := hEA.dst 70 _ 91 rfl rfl; simp [execOp, e89, e91, go_sem]
        · refine ob_val (want_none rfl) (by kernel_rfl) (fun ph w' hp hpm hw => ?_)
          have e84 : Fr.tmps[84]? = some (.bool true) := hEA.dst 63 _ 84 rfl rfl; have e92 : Fr.tmps[92]? = some (.bool true) := hEA.dst 71 _ 92 rfl rfl; simp [execOp, e84, e92, go_sem]
        · refine ob_val (want_none rfl) (by kernel_rfl) (fun ph w' hp hpm hw => ?_)
          have e93 : Fr.tmps[93]? = some (.bool true) := hEA.dst 72 _ 93 rfl rfl; simp [execOp, e93, go_sem]
      · intro w' hw
        simp only [laid, Act.put, List.setIfInBounds_toArray, List.set_cons_succ, List.set_cons_zero, List.getD_cons_succ, List.getD_cons_zero, Nat.zero_add, Nat.reduceAdd]
        go_wp2_with fail
        go_ret
        exact ⟨rfl, B5.trans (hw.mono B5.size)⟩
    ·
      have bA : W5.cell? ⟨ga, 1, none⟩ = some (.bool true) := la.bad
      have bB : W5.cell? ⟨gb, 1, none⟩ = some (.bool false) := lb.bad
      refine wp_region_line (fun i => ([.bool true, .bool true, .agg #[.int .i64 a, .int .i64 b], .bool false, .bool true, .bool true, undef, undef, undef, undef, undef, undef, undef, .bool true, .bool true, .bool true, .agg #[.int .i64 c, .int .i64 d, .int .i64 u], .bool true, .bool false, .bool false, .agg #[.int .i64 c, .int .i64 d, .int .i64 u], .agg #[.int .i64 c, .int .i64 d, .int .i64 u], .bool true, .bool true, .pointer (some ⟨gb, 0, none⟩), .bool true, .bool true, .bool true, .bool true, .bool true, .pointer (some ⟨ga, 0, none⟩), .pointer (some ⟨ga, 0, none⟩), .pointer (some ⟨ga, 1, none⟩), .bool true, .bool false, .bool false, .agg #[.int .i64 0, .int .i64 0], .agg #[.int .i64 0, .int .i64 0], .bool true, .bool true, .bool true, .bool true, .pointer (some ⟨gb, 0, none⟩), .pointer (some ⟨gb, 0, none⟩), .pointer (some ⟨gb, 1, none⟩), .bool false, .bool true, .bool true, undef, undef, undef, .bool true, .bool true, .bool true, .pointer (some ⟨ga, 0, none⟩), .pointer (some ⟨ga, 0, none⟩), .pointer (some ⟨ga, 1, none⟩), .bool true, .bool true, undef, undef, .bool true, .bool true, .bool true, .pointer (some ⟨gb, 0, none⟩), .pointer (some ⟨gb, 0, none⟩), .pointer (some ⟨gb, 1, none⟩), .bool false, .bool false, .agg #[.int .i64 c, .int .i64 d, .int .i64 u], .bool true, .bool true, .bool true, .bool true] : List Value).getD i undef) [0, 3, 17, 25, 70] [0, 1, 1, 1, 2, 2, 2, 2, 2, 2, 2, 2, 2, 2, 2, 2, 2, 2, 3, 3, 3, 3, 3, 3, 3, 3, 4, 4, 4, 4, 4, 4, 4, 4, 4, 4, 4, 4, 4, 4, 4, 4, 4, 4, 4, 4, 4, 4, 4, 4, 4, 4, 4, 4, 4, 4, 4, 4, 4, 4, 4, 4, 4, 4, 4, 4, 4, 4, 4, 4, 4, 5, 5, 5] (fun _ w' => Below W5.heap.size W5 w') (by kernel_rfl) (⟨rfl, rfl, rfl, Nat.le_refl _, fun _ _ => rfl⟩) ?_ ?_
      · refine Obs_of_endsL (by kernel_rfl) ?_
        intro Fr hEA
        refine ⟨?_, ?_, ?_, ?_, ?_, ?_, ?_, ?_, ?_, ?_, ?_, ?_, ?_, ?_, ?_, ?_, ?_, ?_, ?_, ?_, ?_, ?_, ?_, ?_, ?_, ?_, ?_, ?_, ?_, ?_, ?_, ?_, ?_, ?_, ?_, ?_, ?_, ?_, ?_, ?_, ?_, ?_, ?_, ?_, ?_, ?_, ?_, ?_, ?_, ?_, ?_, ?_, ?_, ?_, ?_, ?_, ?_, ?_, ?_, ?_, ?_, ?_, ?_, ?_, ?_, ?_, ?_, ?_, ?_, ?_, ?_, ?_, ?_, ?_, trivial⟩
        · refine ob_call (q := 0) (f := 8) (args := #[]) (want_none rfl) (by kernel_rfl) (fun w' => by simp [go_sem]) ?_
          intro w' hw
          refine (Calls.mono (R := fun E W' => E = .returned (.bool true) ∧ Below w'.heap.size w' W') (awake8_any w') ?_)
          rintro e w2 ⟨rfl, hb⟩
          exact ⟨rfl, hw.trans (hb.mono hw.size)⟩
        · exact ob_move _ rfl (want_none rfl) (by kernel_rfl) (eval_dst hEA (j := 0) rfl rfl)
        · refine ob_val (want_is hEA (g := 1) (x := true) (b := true) rfl rfl rfl rfl) (by kernel_rfl) (fun ph w' hp hpm hw => ?_)
          have hc0 := (hw.cell (p := ⟨w.heap.size, 0, none⟩) bm.lt).trans (bm.c 0 _ rfl)
          have hc1 := (hw.cell (p := ⟨w.heap.size, 1, none⟩) bm.lt).trans (bm.c 1 _ rfl)
          have e2 : Fr.tmps[2]? = some (.pointer (some ⟨w.heap.size, 0, none⟩)) := at_out hEA (d := 2) (by kernel_rfl); simp [execOp, e2, hc0, hc1, go_sem]
        · refine ob_call (q := 1) (f := 11) (args := #[.agg #[.int .i64 a, .int .i64 b]]) (want_is hEA (g := 1) (x := true) (b := true) rfl rfl rfl rfl) (by kernel_rfl) (fun w' => by have e23 : Fr.tmps[23]? = some (.agg #[.int .i64 a, .int .i64 b]) := hEA.dst 2 _ 23 rfl rfl; simp [e23, go_sem]) ?_
          intro w' hw
          refine (Calls.mono (R := fun E W' => E = .returned (.bool false) ∧ Below w'.heap.size w' W') (by have := mright_any a b w'; rwa [hk] at this) ?_)
          rintro e w2 ⟨rfl, hb⟩
          exact ⟨rfl, hw.trans (hb.mono hw.size)⟩
        · refine ob_val (want_is hEA (g := 1) (x := true) (b := true) rfl rfl rfl rfl) (by kernel_rfl) (fun ph w' hp hpm hw => ?_)
          have e24 : Fr.tmps[24]? = some (.bool false) := hEA.dst 3 _ 24 rfl rfl; simp [execOp, e24, go_sem]
        · exact ob_move _ rfl (want_is hEA (g := 1) (x := true) (b := true) rfl rfl rfl rfl) (by kernel_rfl) (eval_dst hEA (j := 4) rfl rfl)
        · exact ob_skip (want_is hEA (g := 5) (x := true) (b := false) rfl rfl rfl rfl) (by kernel_rfl) rfl
        · exact ob_skip (want_is hEA (g := 5) (x := true) (b := false) rfl rfl rfl rfl) (by kernel_rfl) rfl
        · exact ob_skip (want_is hEA (g := 5) (x := true) (b := false) rfl rfl rfl rfl) (by kernel_rfl) rfl
        · exact ob_skip (want_is hEA (g := 5) (x := true) (b := false) rfl rfl rfl rfl) (by kernel_rfl) rfl
        · exact ob_skip (want_undef hEA (g := 9) rfl rfl rfl rfl) (by kernel_rfl) rfl
        · exact ob_skip (want_undef hEA (g := 9) rfl rfl rfl rfl) (by kernel_rfl) rfl
        · exact ob_skip (want_is hEA (g := 5) (x := true) (b := false) rfl rfl rfl rfl) (by kernel_rfl) rfl
        · refine ob_val (want_is hEA (g := 1) (x := true) (b := true) rfl rfl rfl rfl) (by kernel_rfl) (fun ph w' hp hpm hw => ?_)
          have e26 : Fr.tmps[26]? = some (.bool true) := hEA.dst 5 _ 26 rfl rfl; have e33 : Fr.tmps[33]? = some (undef) := hEA.dst 12 _ 33 rfl rfl; simp [execOp, e26, e33, go_sem]
        · refine ob_val (want_none rfl) (by kernel_rfl) (fun ph w' hp hpm hw => ?_)
          have e22 : Fr.tmps[22]? = some (.bool true) := hEA.dst 1 _ 22 rfl rfl; have e34 : Fr.tmps[34]? = some (.bool true) := hEA.dst 13 _ 34 rfl rfl; simp [execOp, e22, e34, go_sem]
        · exact ob_move _ rfl (want_none rfl) (by kernel_rfl) (eval_dst hEA (j := 14) rfl rfl)
        · refine ob_val (want_is hEA (g := 15) (x := true) (b := true) rfl rfl rfl rfl) (by kernel_rfl) (fun ph w' hp hpm hw => ?_)
          have hc0 := (hw.cell (p := ⟨w.heap.size + 1, 0, none⟩) bv.lt).trans (bv.c 0 _ rfl)
          have hc1 := (hw.cell (p := ⟨w.heap.size + 1, 1, none⟩) bv.lt).trans (bv.c 1 _ rfl)
          have hc2 := (hw.cell (p := ⟨w.heap.size + 1, 2, none⟩) bv.lt).trans (bv.c 2 _ rfl)
          have e3 : Fr.tmps[3]? = some (.pointer (some ⟨w.heap.size + 1, 0, none⟩)) := at_out hEA (d := 3) (by kernel_rfl); simp [execOp, e3, hc0, hc1, hc2, go_sem]
        · refine ob_call (q := 2) (f := 15) (args := #[.agg #[.int .i64 c, .int .i64 d, .int .i64 u]]) (want_is hEA (g := 15) (x := true) (b := true) rfl rfl rfl rfl) (by kernel_rfl) (fun w' => by have e37 : Fr.tmps[37]? = some (.agg #[.int .i64 c, .int .i64 d, .int .i64 u]) := hEA.dst 16 _ 37 rfl rfl; simp [e37, go_sem]) ?_
          intro w' hw
          refine (Calls.mono (R := fun E W' => E = .returned (.bool true) ∧ Below w'.heap.size w' W') (by have := id_any c d u w'; rwa [hv] at this) ?_)
          rintro e w2 ⟨rfl, hb⟩
          exact ⟨rfl, hw.trans (hb.mono hw.size)⟩
        · refine ob_val (want_is hEA (g := 15) (x := true) (b := true) rfl rfl rfl rfl) (by kernel_rfl) (fun ph w' hp hpm hw => ?_)
          have e38 : Fr.tmps[38]? = some (.bool true) := hEA.dst 17 _ 38 rfl rfl; simp [execOp, e38, go_sem]
        · exact ob_move _ rfl (want_is hEA (g := 15) (x := true) (b := true) rfl rfl rfl rfl) (by kernel_rfl) (eval_dst hEA (j := 18) rfl rfl)
        · refine ob_val (want_is hEA (g := 19) (x := false) (b := false) rfl rfl rfl rfl) (by kernel_rfl) (fun ph w' hp hpm hw => ?_)
          have hc0 := (hw.cell (p := ⟨W4.heap.size + 1, 0, none⟩) bY.lt).trans (bY.c 0 _ rfl)
          have hc1 := (hw.cell (p := ⟨W4.heap.size + 1, 1, none⟩) bY.lt).trans (bY.c 1 _ rfl)
          have hc2 := (hw.cell (p := ⟨W4.heap.size + 1, 2, none⟩) bY.lt).trans (bY.c 2 _ rfl)
          have e8 : Fr.tmps[8]? = some (.pointer (some ⟨W4.heap.size + 1, 0, none⟩)) := at_out hEA (d := 8) (by kernel_rfl); simp [execOp, e8, hc0, hc1, hc2, go_sem]
        · refine ob_val (want_is hEA (g := 19) (x := false) (b := false) rfl rfl rfl rfl) (by kernel_rfl) (fun ph w' hp hpm hw => ?_)
          have hc0 := (hw.cell (p := ⟨w.heap.size + 1, 0, none⟩) bv.lt).trans (bv.c 0 _ rfl)
          have hc1 := (hw.cell (p := ⟨w.heap.size + 1, 1, none⟩) bv.lt).trans (bv.c 1 _ rfl)
          have hc2 := (hw.cell (p := ⟨w.heap.size + 1, 2, none⟩) bv.lt).trans (bv.c 2 _ rfl)
          have e3 : Fr.tmps[3]? = some (.pointer (some ⟨w.heap.size + 1, 0, none⟩)) := at_out hEA (d := 3) (by kernel_rfl); simp [execOp, e3, hc0, hc1, hc2, go_sem]
        · refine ob_val (want_is hEA (g := 19) (x := false) (b := false) rfl rfl rfl rfl) (by kernel_rfl) (fun ph w' hp hpm hw => ?_)
          have e41 : Fr.tmps[41]? = some (.agg #[.int .i64 c, .int .i64 d, .int .i64 u]) := hEA.dst 20 _ 41 rfl rfl; have e42 : Fr.tmps[42]? = some (.agg #[.int .i64 c, .int .i64 d, .int .i64 u]) := hEA.dst 21 _ 42 rfl rfl; simp [execOp, e41, e42, go_sem]
        · exact ob_move _ rfl (want_is hEA (g := 19) (x := false) (b := false) rfl rfl rfl rfl) (by kernel_rfl) (eval_dst hEA (j := 22) rfl rfl)
        · exact ob_move _ rfl (want_is hEA (g := 23) (x := true) (b := true) rfl rfl rfl rfl) (by kernel_rfl) (eval_out hEA (d := 6) (by kernel_rfl))
        · refine ob_call (q := 3) (f := 27) (args := #[.pointer (some ⟨gb, 0, none⟩)]) (want_is hEA (g := 23) (x := true) (b := true) rfl rfl rfl rfl) (by kernel_rfl) (fun w' => by have e45 : Fr.tmps[45]? = some (.pointer (some ⟨gb, 0, none⟩)) := hEA.dst 24 _ 45 rfl rfl; simp [e45, go_sem]) ?_
          intro w' hw
          refine (leftDone_st gb 100 (some []) w' (lb.next hw)).mono ?_
          rintro e w2 ⟨rfl, rfl⟩
          exact ⟨rfl, hw⟩
        · refine ob_val (want_is hEA (g := 19) (x := false) (b := false) rfl rfl rfl rfl) (by kernel_rfl) (fun ph w' hp hpm hw => ?_)
          have e44 : Fr.tmps[44]? = some (.bool true) := hEA.dst 23 _ 44 rfl rfl; have e46 : Fr.tmps[46]? = some (.bool true) := hEA.dst 25 _ 46 rfl rfl; simp [execOp, e44, e46, go_sem]
        · refine ob_val (want_is hEA (g := 15) (x := true) (b := true) rfl rfl rfl rfl) (by kernel_rfl) (fun ph w' hp hpm hw => ?_)
          have e40 : Fr.tmps[40]? = some (.bool false) := hEA.dst 19 _ 40 rfl rfl; have e47 : Fr.tmps[47]? = some (.bool true) := hEA.dst 26 _ 47 rfl rfl; simp [execOp, e40, e47, go_sem]
        · refine ob_val (want_none rfl) (by kernel_rfl) (fun ph w' hp hpm hw => ?_)
          have e36 : Fr.tmps[36]? = some (.bool true) := hEA.dst 15 _ 36 rfl rfl; have e48 : Fr.tmps[48]? = some (.bool true) := hEA.dst 27 _ 48 rfl rfl; simp [execOp, e36, e48, go_sem]
        · exact ob_move _ rfl (want_none rfl) (by kernel_rfl) (eval_dst hEA (j := 28) rfl rfl)
        · exact ob_move _ rfl (want_is hEA (g := 29) (x := true) (b := true) rfl rfl rfl rfl) (by kernel_rfl) (eval_out hEA (d := 5) (by kernel_rfl))
        · refine ob_val (want_is hEA (g := 29) (x := true) (b := true) rfl rfl rfl rfl) (by kernel_rfl) (fun ph w' hp hpm hw => ?_)
          have e51 : Fr.tmps[51]? = some (.pointer (some ⟨ga, 0, none⟩)) := hEA.dst 30 _ 51 rfl rfl; simp [execOp, e51, go_sem]
        · refine ob_val (want_is hEA (g := 29) (x := true) (b := true) rfl rfl rfl rfl) (by kernel_rfl) (fun ph w' hp hpm hw => ?_)
          have e52 : Fr.tmps[52]? = some (.pointer (some ⟨ga, 0, none⟩)) := hEA.dst 31 _ 52 rfl rfl; simp [execOp, e52, go_sem]
        · refine ob_val (want_is hEA (g := 29) (x := true) (b := true) rfl rfl rfl rfl) (by kernel_rfl) (fun ph w' hp hpm hw => ?_)
          have hc0 := (hw.cell (p := ⟨ga, 1, none⟩) la.lt).trans bA
          have e53 : Fr.tmps[53]? = some (.pointer (some ⟨ga, 1, none⟩)) := hEA.dst 32 _ 53 rfl rfl; simp [execOp, e53, hc0, go_sem]
        · refine ob_val (want_is hEA (g := 29) (x := true) (b := true) rfl rfl rfl rfl) (by kernel_rfl) (fun ph w' hp hpm hw => ?_)
          have e54 : Fr.tmps[54]? = some (.bool true) := hEA.dst 33 _ 54 rfl rfl; simp [execOp, e54, go_sem]
        · exact ob_move _ rfl (want_is hEA (g := 29) (x := true) (b := true) rfl rfl rfl rfl) (by kernel_rfl) (eval_dst hEA (j := 34) rfl rfl)
        · refine ob_val (want_is hEA (g := 35) (x := false) (b := false) rfl rfl rfl rfl) (by kernel_rfl) (fun ph w' hp hpm hw => ?_)
          have hc0 := (hw.cell (p := ⟨W4.heap.size, 0, none⟩) bx.lt).trans (bx.c 0 _ rfl)
          have hc1 := (hw.cell (p := ⟨W4.heap.size, 1, none⟩) bx.lt).trans (bx.c 1 _ rfl)
          have e7 : Fr.tmps[7]? = some (.pointer (some ⟨W4.heap.size, 0, none⟩)) := at_out hEA (d := 7) (by kernel_rfl); simp [execOp, e7, hc0, hc1, go_sem]
        · refine ob_val (want_is hEA (g := 35) (x := false) (b := false) rfl rfl rfl rfl) (by kernel_rfl) (fun ph w' hp hpm hw => ?_)
          simp [execOp, go_sem]
        · refine ob_val (want_is hEA (g := 35) (x := false) (b := false) rfl rfl rfl rfl) (by kernel_rfl) (fun ph w' hp hpm hw => ?_)
          have e57 : Fr.tmps[57]? = some (.agg #[.int .i64 0, .int .i64 0]) := hEA.dst 36 _ 57 rfl rfl; have e58 : Fr.tmps[58]? = some (.agg #[.int .i64 0, .int .i64 0]) := hEA.dst 37 _ 58 rfl rfl; simp [execOp, e57, e58, go_sem]
        · refine ob_val (want_is hEA (g := 29) (x := true) (b := true) rfl rfl rfl rfl) (by kernel_rfl) (fun ph w' hp hpm hw => ?_)
          have e56 : Fr.tmps[56]? = some (.bool false) := hEA.dst 35 _ 56 rfl rfl; have e59 : Fr.tmps[59]? = some (.bool true) := hEA.dst 38 _ 59 rfl rfl; simp [execOp, e56, e59, go_sem]
        · refine ob_val (want_none rfl) (by kernel_rfl) (fun ph w' hp hpm hw => ?_)
          have e50 : Fr.tmps[50]? = some (.bool true) := hEA.dst 29 _ 50 rfl rfl; have e60 : Fr.tmps[60]? = some (.bool true) := hEA.dst 39 _ 60 rfl rfl; simp [execOp, e50, e60, go_sem]
        · exact ob_move _ rfl (want_none rfl) (by kernel_rfl) (eval_dst hEA (j := 40) rfl rfl)
        · exact ob_move _ rfl (want_is hEA (g := 41) (x := true) (b := true) rfl rfl rfl rfl) (by kernel_rfl) (eval_out hEA (d := 6) (by kernel_rfl))
        · refine ob_val (want_is hEA (g := 41) (x := true) (b := true) rfl rfl rfl rfl) (by kernel_rfl) (fun ph w' hp hpm hw => ?_)
          have e63 : Fr.tmps[63]? = some (.pointer (some ⟨gb, 0, none⟩)) := hEA.dst 42 _ 63 rfl rfl; simp [execOp, e63, go_sem]
        · refine ob_val (want_is hEA (g := 41) (x := true) (b := true) rfl rfl rfl rfl) (by kernel_rfl) (fun ph w' hp hpm hw => ?_)
          have e64 : Fr.tmps[64]? = some (.pointer (some ⟨gb, 0, none⟩)) := hEA.dst 43 _ 64 rfl rfl; simp [execOp, e64, go_sem]
        · refine ob_val (want_is hEA (g := 41) (x := true) (b := true) rfl rfl rfl rfl) (by kernel_rfl) (fun ph w' hp hpm hw => ?_)
          have hc0 := (hw.cell (p := ⟨gb, 1, none⟩) lb.lt).trans bB
          have e65 : Fr.tmps[65]? = some (.pointer (some ⟨gb, 1, none⟩)) := hEA.dst 44 _ 65 rfl rfl; simp [execOp, e65, hc0, go_sem]
        · refine ob_val (want_is hEA (g := 41) (x := true) (b := true) rfl rfl rfl rfl) (by kernel_rfl) (fun ph w' hp hpm hw => ?_)
          have e66 : Fr.tmps[66]? = some (.bool false) := hEA.dst 45 _ 66 rfl rfl; simp [execOp, e66, go_sem]
        · exact ob_move _ rfl (want_is hEA (g := 41) (x := true) (b := true) rfl rfl rfl rfl) (by kernel_rfl) (eval_dst hEA (j := 46) rfl rfl)
        · exact ob_skip (want_is hEA (g := 47) (x := true) (b := false) rfl rfl rfl rfl) (by kernel_rfl) rfl
        · exact ob_skip (want_is hEA (g := 47) (x := true) (b := false) rfl rfl rfl rfl) (by kernel_rfl) rfl
        · exact ob_skip (want_is hEA (g := 47) (x := true) (b := false) rfl rfl rfl rfl) (by kernel_rfl) rfl
        · refine ob_val (want_is hEA (g := 41) (x := true) (b := true) rfl rfl rfl rfl) (by kernel_rfl) (fun ph w' hp hpm hw => ?_)
          have e68 : Fr.tmps[68]? = some (.bool true) := hEA.dst 47 _ 68 rfl rfl; have e71 : Fr.tmps[71]? = some (undef) := hEA.dst 50 _ 71 rfl rfl; simp [execOp, e68, e71, go_sem]
        · refine ob_val (want_none rfl) (by kernel_rfl) (fun ph w' hp hpm hw => ?_)
          have e62 : Fr.tmps[62]? = some (.bool true) := hEA.dst 41 _ 62 rfl rfl; have e72 : Fr.tmps[72]? = some (.bool true) := hEA.dst 51 _ 72 rfl rfl; simp [execOp, e62, e72, go_sem]
        · exact ob_move _ rfl (want_none rfl) (by kernel_rfl) (eval_dst hEA (j := 52) rfl rfl)
        · exact ob_move _ rfl (want_is hEA (g := 53) (x := true) (b := true) rfl rfl rfl rfl) (by kernel_rfl) (eval_out hEA (d := 5) (by kernel_rfl))
        · refine ob_val (want_is hEA (g := 53) (x := true) (b := true) rfl rfl rfl rfl) (by kernel_rfl) (fun ph w' hp hpm hw => ?_)
          have e75 : Fr.tmps[75]? = some (.pointer (some ⟨ga, 0, none⟩)) := hEA.dst 54 _ 75 rfl rfl; simp [execOp, e75, go_sem]
        · refine ob_val (want_is hEA (g := 53) (x := true) (b := true) rfl rfl rfl rfl) (by kernel_rfl) (fun ph w' hp hpm hw => ?_)
          have e76 : Fr.tmps[76]? = some (.pointer (some ⟨ga, 0, none⟩)) := hEA.dst 55 _ 76 rfl rfl; simp [execOp, e76, go_sem]
        · refine ob_val (want_is hEA (g := 53) (x := true) (b := true) rfl rfl rfl rfl) (by kernel_rfl) (fun ph w' hp hpm hw => ?_)
          have hc0 := (hw.cell (p := ⟨ga, 1, none⟩) la.lt).trans bA
          have e77 : Fr.tmps[77]? = some (.pointer (some ⟨ga, 1, none⟩)) := hEA.dst 56 _ 77 rfl rfl; simp [execOp, e77, hc0, go_sem]
        · exact ob_move _ rfl (want_is hEA (g := 53) (x := true) (b := true) rfl rfl rfl rfl) (by kernel_rfl) (eval_dst hEA (j := 57) rfl rfl)
        · exact ob_skip (want_is hEA (g := 58) (x := true) (b := false) rfl rfl rfl rfl) (by kernel_rfl) rfl
        · exact ob_skip (want_is hEA (g := 58) (x := true) (b := false) rfl rfl rfl rfl) (by kernel_rfl) rfl
        · refine ob_val (want_is hEA (g := 53) (x := true) (b := true) rfl rfl rfl rfl) (by kernel_rfl) (fun ph w' hp hpm hw => ?_)
          have e79 : Fr.tmps[79]? = some (.bool true) := hEA.dst 58 _ 79 rfl rfl; have e81 : Fr.tmps[81]? = some (undef) := hEA.dst 60 _ 81 rfl rfl; simp [execOp, e79, e81, go_sem]
        · refine ob_val (want_none rfl) (by kernel_rfl) (fun ph w' hp hpm hw => ?_)
          have e74 : Fr.tmps[74]? = some (.bool true) := hEA.dst 53 _ 74 rfl rfl; have e82 : Fr.tmps[82]? = some (.bool true) := hEA.dst 61 _ 82 rfl rfl; simp [execOp, e74, e82, go_sem]
        · exact ob_move _ rfl (want_none rfl) (by kernel_rfl) (eval_dst hEA (j := 62) rfl rfl)
        · exact ob_move _ rfl (want_is hEA (g := 63) (x := true) (b := true) rfl rfl rfl rfl) (by kernel_rfl) (eval_out hEA (d := 6) (by kernel_rfl))
        · refine ob_val (want_is hEA (g := 63) (x := true) (b := true) rfl rfl rfl rfl) (by kernel_rfl) (fun ph w' hp hpm hw => ?_)
          have e85 : Fr.tmps[85]? = some (.pointer (some ⟨gb, 0, none⟩)) := hEA.dst 64 _ 85 rfl rfl; simp [execOp, e85, go_sem]
        · refine ob_val (want_is hEA (g := 63) (x := true) (b := true) rfl rfl rfl rfl) (by kernel_rfl) (fun ph w' hp hpm hw => ?_)
          have e86 : Fr.tmps[86]? = some (.pointer (some ⟨gb, 0, none⟩)) := hEA.dst 65 _ 86 rfl rfl; simp [execOp, e86, go_sem]
        · refine ob_val (want_is hEA (g := 63) (x := true) (b := true) rfl rfl rfl rfl) (by kernel_rfl) (fun ph w' hp hpm hw => ?_)
          have hc0 := (hw.cell (p := ⟨gb, 1, none⟩) lb.lt).trans bB
          have e87 : Fr.tmps[87]? = some (.pointer (some ⟨gb, 1, none⟩)) := hEA.dst 66 _ 87 rfl rfl; simp [execOp, e87, hc0, go_sem]
        · exact ob_move _ rfl (want_is hEA (g := 63) (x := true) (b := true) rfl rfl rfl rfl) (by kernel_rfl) (eval_dst hEA (j := 67) rfl rfl)
        · refine ob_val (want_is hEA (g := 68) (x := false) (b := false) rfl rfl rfl rfl) (by kernel_rfl) (fun ph w' hp hpm hw => ?_)
          have hc0 := (hw.cell (p := ⟨W4.heap.size + 1, 0, none⟩) bY.lt).trans (bY.c 0 _ rfl)
          have hc1 := (hw.cell (p := ⟨W4.heap.size + 1, 1, none⟩) bY.lt).trans (bY.c 1 _ rfl)
          have hc2 := (hw.cell (p := ⟨W4.heap.size + 1, 2, none⟩) bY.lt).trans (bY.c 2 _ rfl)
          have e8 : Fr.tmps[8]? = some (.pointer (some ⟨W4.heap.size + 1, 0, none⟩)) := at_out hEA (d := 8) (by kernel_rfl); simp [execOp, e8, hc0, hc1, hc2, go_sem]
        · refine ob_call (q := 4) (f := 15) (args := #[.agg #[.int .i64 c, .int .i64 d, .int .i64 u]]) (want_is hEA (g := 68) (x := false) (b := false) rfl rfl rfl rfl) (by kernel_rfl) (fun w' => by have e90 : Fr.tmps[90]? = some (.agg #[.int .i64 c, .int .i64 d, .int .i64 u]) := hEA.dst 69 _ 90 rfl rfl; simp [e90, go_sem]) ?_
          intro w' hw
          refine (Calls.mono (R := fun E W' => E = .returned (.bool true) ∧ Below w'.heap.size w' W') (by have := id_any c d u w'; rwa [hv] at this) ?_)
          rintro e w2 ⟨rfl, hb⟩
          exact ⟨rfl, hw.trans (hb.mono hw.size)⟩
        · refine ob_val (want_is hEA (g := 63) (x := true) (b := true) rfl rfl rfl rfl) (by kernel_rfl) (fun ph w' hp hpm hw => ?_)
          have e89 : Fr.tmps[89]? = some (.bool false) := hEA.dst 68 _ 89 rfl rfl; have e91 : Fr.tmps[91]? = some (.bool true) := hEA.dst 70 _ 91 rfl rfl; simp [execOp, e89, e91, go_sem]
        · refine ob_val (want_none rfl) (by kernel_rfl) (fun ph w' hp hpm hw => ?_)
          have e84 : Fr.tmps[84]? = some (.bool true) := hEA.dst 63 _ 84 rfl rfl; have e92 : Fr.tmps[92]? = some (.bool true) := hEA.dst 71 _ 92 rfl rfl; simp [execOp, e84, e92, go_sem]
        · refine ob_val (want_none rfl) (by kernel_rfl) (fun ph w' hp hpm hw => ?_)
          have e93 : Fr.tmps[93]? = some (.bool true) := hEA.dst 72 _ 93 rfl rfl; simp [execOp, e93, go_sem]
      · intro w' hw
        simp only [laid, Act.put, List.setIfInBounds_toArray, List.set_cons_succ, List.set_cons_zero, List.getD_cons_succ, List.getD_cons_zero, Nat.zero_add, Nat.reduceAdd]
        go_wp2_with fail
        go_ret
        exact ⟨rfl, B5.trans (hw.mono B5.size)⟩
    ·
      have bA : W5.cell? ⟨ga, 1, none⟩ = some (.bool true) := la.bad
      have bB : W5.cell? ⟨gb, 1, none⟩ = some (.bool true) := lb.bad
      refine wp_region_line (fun i => ([.bool true, .bool true, .agg #[.int .i64 a, .int .i64 b], .bool false, .bool true, .bool true, undef, undef, undef, undef, undef, undef, undef, .bool true, .bool true, .bool true, .agg #[.int .i64 c, .int .i64 d, .int .i64 u], .bool false, .bool true, .bool true, undef, undef, undef, undef, undef, undef, undef, .bool true, .bool true, .bool true, .pointer (some ⟨ga, 0, none⟩), .pointer (some ⟨ga, 0, none⟩), .pointer (some ⟨ga, 1, none⟩), .bool true, .bool false, .bool false, .agg #[.int .i64 0, .int .i64 0], .agg #[.int .i64 0, .int .i64 0], .bool true, .bool true, .bool true, .bool true, .pointer (some ⟨gb, 0, none⟩), .pointer (some ⟨gb, 0, none⟩), .pointer (some ⟨gb, 1, none⟩), .bool true, .bool false, .bool false, .agg #[.int .i64 0, .int .i64 0, .int .i64 0], .agg #[.int .i64 0, .int .i64 0, .int .i64 0], .bool true, .bool true, .bool true, .bool true, .pointer (some ⟨ga, 0, none⟩), .pointer (some ⟨ga, 0, none⟩), .pointer (some ⟨ga, 1, none⟩), .bool true, .bool true, undef, undef, .bool true, .bool true, .bool true, .pointer (some ⟨gb, 0, none⟩), .pointer (some ⟨gb, 0, none⟩), .pointer (some ⟨gb, 1, none⟩), .bool true, .bool true, undef, undef, .bool true, .bool true, .bool true] : List Value).getD i undef) [0, 3, 17] [0, 1, 1, 1, 2, 2, 2, 2, 2, 2, 2, 2, 2, 2, 2, 2, 2, 2, 3, 3, 3, 3, 3, 3, 3, 3, 3, 3, 3, 3, 3, 3, 3, 3, 3, 3, 3, 3, 3, 3, 3, 3, 3, 3, 3, 3, 3, 3, 3, 3, 3, 3, 3, 3, 3, 3, 3, 3, 3, 3, 3, 3, 3, 3, 3, 3, 3, 3, 3, 3, 3, 3, 3, 3] (fun _ w' => Below W5.heap.size W5 w') (by kernel_rfl) (⟨rfl, rfl, rfl, Nat.le_refl _, fun _ _ => rfl⟩) ?_ ?_
      · refine Obs_of_endsL (by kernel_rfl) ?_
        intro Fr hEA
        refine ⟨?_, ?_, ?_, ?_, ?_, ?_, ?_, ?_, ?_, ?_, ?_, ?_, ?_, ?_, ?_, ?_, ?_, ?_, ?_, ?_, ?_, ?_, ?_, ?_, ?_, ?_, ?_, ?_, ?_, ?_, ?_, ?_, ?_, ?_, ?_, ?_, ?_, ?_, ?_, ?_, ?_, ?_, ?_, ?_, ?_, ?_, ?_, ?_, ?_, ?_, ?_, ?_, ?_, ?_, ?_, ?_, ?_, ?_, ?_, ?_, ?_, ?_, ?_, ?_, ?_, ?_, ?_, ?_, ?_, ?_, ?_, ?_, ?_, ?_, trivial⟩
        · refine ob_call (q := 0) (f := 8) (args := #[]) (want_none rfl) (by kernel_rfl) (fun w' => by simp [go_sem]) ?_
          intro w' hw
          refine (Calls.mono (R := fun E W' => E = .returned (.bool true) ∧ Below w'.heap.size w' W') (awake8_any w') ?_)
          rintro e w2 ⟨rfl, hb⟩
          exact ⟨rfl, hw.trans (hb.mono hw.size)⟩
        · exact ob_move _ rfl (want_none rfl) (by kernel_rfl) (eval_dst hEA (j := 0) rfl rfl)
        · refine ob_val (want_is hEA (g := 1) (x := true) (b := true) rfl rfl rfl rfl) (by kernel_rfl) (fun ph w' hp hpm hw => ?_)
          have hc0 := (hw.cell (p := ⟨w.heap.size, 0, none⟩) bm.lt).trans (bm.c 0 _ rfl)
          have hc1 := (hw.cell (p := ⟨w.heap.size, 1, none⟩) bm.lt).trans (bm.c 1 _ rfl)
          have e2 : Fr.tmps[2]? = some (.pointer (some ⟨w.heap.size, 0, none⟩)) := at_out hEA (d := 2) (by kernel_rfl); simp [execOp, e2, hc0, hc1, go_sem]
        · refine ob_call (q := 1) (f := 11) (args := #[.agg #[.int .i64 a, .int .i64 b]]) (want_is hEA (g := 1) (x := true) (b := true) rfl rfl rfl rfl) (by kernel_rfl) (fun w' => by have e23 : Fr.tmps[23]? = some (.agg #[.int .i64 a, .int .i64 b]) := hEA.dst 2 _ 23 rfl rfl; simp [e23, go_sem]) ?_
          intro w' hw
          refine (Calls.mono (R := fun E W' => E = .returned (.bool false) ∧ Below w'.heap.size w' W') (by have := mright_any a b w'; rwa [hk] at this) ?_)
          rintro e w2 ⟨rfl, hb⟩
          exact ⟨rfl, hw.trans (hb.mono hw.size)⟩
        · refine ob_val (want_is hEA (g := 1) (x := true) (b := true) rfl rfl rfl rfl) (by kernel_rfl) (fun ph w' hp hpm hw => ?_)
          have e24 : Fr.tmps[24]? = some (.bool false) := hEA.dst 3 _ 24 rfl rfl; simp [execOp, e24, go_sem]
        · exact ob_move _ rfl (want_is hEA (g := 1) (x := true) (b := true) rfl rfl rfl rfl) (by kernel_rfl) (eval_dst hEA (j := 4) rfl rfl)
        · exact ob_skip (want_is hEA (g := 5) (x := true) (b := false) rfl rfl rfl rfl) (by kernel_rfl) rfl
        · exact ob_skip (want_is hEA (g := 5) (x := true) (b := false) rfl rfl rfl rfl) (by kernel_rfl) rfl
        · exact ob_skip (want_is hEA (g := 5) (x := true) (b := false) rfl rfl rfl rfl) (by kernel_rfl) rfl
        · exact ob_skip (want_is hEA (g := 5) (x := true) (b := false) rfl rfl rfl rfl) (by kernel_rfl) rfl
        · exact ob_skip (want_undef hEA (g := 9) rfl rfl rfl rfl) (by kernel_rfl) rfl
        · exact ob_skip (want_undef hEA (g := 9) rfl rfl rfl rfl) (by kernel_rfl) rfl
        · exact ob_skip (want_is hEA (g := 5) (x := true) (b := false) rfl rfl rfl rfl) (by kernel_rfl) rfl
        · refine ob_val (want_is hEA (g := 1) (x := true) (b := true) rfl rfl rfl rfl) (by kernel_rfl) (fun ph w' hp hpm hw => ?_)
          have e26 : Fr.tmps[26]? = some (.bool true) := hEA.dst 5 _ 26 rfl rfl; have e33 : Fr.tmps[33]? = some (undef) := hEA.dst 12 _ 33 rfl rfl; simp [execOp, e26, e33, go_sem]
        · refine ob_val (want_none rfl) (by kernel_rfl) (fun ph w' hp hpm hw => ?_)
          have e22 : Fr.tmps[22]? = some (.bool true) := hEA.dst 1 _ 22 rfl rfl; have e34 : Fr.tmps[34]? = some (.bool true) := hEA.dst 13 _ 34 rfl rfl; simp [execOp, e22, e34, go_sem]
        · exact ob_move _ rfl (want_none rfl) (by kernel_rfl) (eval_dst hEA (j := 14) rfl rfl)
        · refine ob_val (want_is hEA (g := 15) (x := true) (b := true) rfl rfl rfl rfl) (by kernel_rfl) (fun ph w' hp hpm hw => ?_)
          have hc0 := (hw.cell (p := ⟨w.heap.size + 1, 0, none⟩) bv.lt).trans (bv.c 0 _ rfl)
          have hc1 := (hw.cell (p := ⟨w.heap.size + 1, 1, none⟩) bv.lt).trans (bv.c 1 _ rfl)
          have hc2 := (hw.cell (p := ⟨w.heap.size + 1, 2, none⟩) bv.lt).trans (bv.c 2 _ rfl)
          have e3 : Fr.tmps[3]? = some (.pointer (some ⟨w.heap.size + 1, 0, none⟩)) := at_out hEA (d := 3) (by kernel_rfl); simp [execOp, e3, hc0, hc1, hc2, go_sem]
        · refine ob_call (q := 2) (f := 15) (args := #[.agg #[.int .i64 c, .int .i64 d, .int .i64 u]]) (want_is hEA (g := 15) (x := true) (b := true) rfl rfl rfl rfl) (by kernel_rfl) (fun w' => by have e37 : Fr.tmps[37]? = some (.agg #[.int .i64 c, .int .i64 d, .int .i64 u]) := hEA.dst 16 _ 37 rfl rfl; simp [e37, go_sem]) ?_
          intro w' hw
          refine (Calls.mono (R := fun E W' => E = .returned (.bool false) ∧ Below w'.heap.size w' W') (by have := id_any c d u w'; rwa [hv] at this) ?_)
          rintro e w2 ⟨rfl, hb⟩
          exact ⟨rfl, hw.trans (hb.mono hw.size)⟩
        · refine ob_val (want_is hEA (g := 15) (x := true) (b := true) rfl rfl rfl rfl) (by kernel_rfl) (fun ph w' hp hpm hw => ?_)
          have e38 : Fr.tmps[38]? = some (.bool false) := hEA.dst 17 _ 38 rfl rfl; simp [execOp, e38, go_sem]
        · exact ob_move _ rfl (want_is hEA (g := 15) (x := true) (b := true) rfl rfl rfl rfl) (by kernel_rfl) (eval_dst hEA (j := 18) rfl rfl)
        · exact ob_skip (want_is hEA (g := 19) (x := true) (b := false) rfl rfl rfl rfl) (by kernel_rfl) rfl
        · exact ob_skip (want_is hEA (g := 19) (x := true) (b := false) rfl rfl rfl rfl) (by kernel_rfl) rfl
        · exact ob_skip (want_is hEA (g := 19) (x := true) (b := false) rfl rfl rfl rfl) (by kernel_rfl) rfl
        · exact ob_skip (want_is hEA (g := 19) (x := true) (b := false) rfl rfl rfl rfl) (by kernel_rfl) rfl
        · exact ob_skip (want_undef hEA (g := 23) rfl rfl rfl rfl) (by kernel_rfl) rfl
        · exact ob_skip (want_undef hEA (g := 23) rfl rfl rfl rfl) (by kernel_rfl) rfl
        · exact ob_skip (want_is hEA (g := 19) (x := true) (b := false) rfl rfl rfl rfl) (by kernel_rfl) rfl
        · refine ob_val (want_is hEA (g := 15) (x := true) (b := true) rfl rfl rfl rfl) (by kernel_rfl) (fun ph w' hp hpm hw => ?_)
          have e40 : Fr.tmps[40]? = some (.bool true) := hEA.dst 19 _ 40 rfl rfl; have e47 : Fr.tmps[47]? = some (undef) := hEA.dst 26 _ 47 rfl rfl; simp [execOp, e40, e47, go_sem]
        · refine ob_val (want_none rfl) (by kernel_rfl) (fun ph w' hp hpm hw => ?_)
          have e36 : Fr.tmps[36]? = some (.bool true) := hEA.dst 15 _ 36 rfl rfl; have e48 : Fr.tmps[48]? = some (.bool true) := hEA.dst 27 _ 48 rfl rfl; simp [execOp, e36, e48, go_sem]
        · exact ob_move _ rfl (want_none rfl) (by kernel_rfl) (eval_dst hEA (j := 28) rfl rfl)
        · exact ob_move _ rfl (want_is hEA (g := 29) (x := true) (b := true) rfl rfl rfl rfl) (by kernel_rfl) (eval_out hEA (d := 5) (by kernel_rfl))
        · refine ob_val (want_is hEA (g := 29) (x := true) (b := true) rfl rfl rfl rfl) (by kernel_rfl) (fun ph w' hp hpm hw => ?_)
          have e51 : Fr.tmps[51]? = some (.pointer (some ⟨ga, 0, none⟩)) := hEA.dst 30 _ 51 rfl rfl; simp [execOp, e51, go_sem]
        · refine ob_val (want_is hEA (g := 29) (x := true) (b := true) rfl rfl rfl rfl) (by kernel_rfl) (fun ph w' hp hpm hw => ?_)
          have e52 : Fr.tmps[52]? = some (.pointer (some ⟨ga, 0, none⟩)) := hEA.dst 31 _ 52 rfl rfl; simp [execOp, e52, go_sem]
        · refine ob_val (want_is hEA (g := 29) (x := true) (b := true) rfl rfl rfl rfl) (by kernel_rfl) (fun ph w' hp hpm hw => ?_)
          have hc0 := (hw.cell (p := ⟨ga, 1, none⟩) la.lt).trans bA
          have e53 : Fr.tmps[53]? = some (.pointer (some ⟨ga, 1, none⟩)) := hEA.dst 32 _ 53 rfl rfl; simp [execOp, e53, hc0, go_sem]
        · refine ob_val (want_is hEA (g := 29) (x := true) (b := true) rfl rfl rfl rfl) (by kernel_rfl) (fun ph w' hp hpm hw => ?_)
          have e54 : Fr.tmps[54]? = some (.bool true) := hEA.dst 33 _ 54 rfl rfl; simp [execOp, e54, go_sem]
        · exact ob_move _ rfl (want_is hEA (g := 29) (x := true) (b := true) rfl rfl rfl rfl) (by kernel_rfl) (eval_dst hEA (j := 34) rfl rfl)
        · refine ob_val (want_is hEA (g := 35) (x := false) (b := false) rfl rfl rfl rfl) (by kernel_rfl) (fun ph w' hp hpm hw => ?_)
          have hc0 := (hw.cell (p := ⟨W4.heap.size, 0, none⟩) bx.lt).trans (bx.c 0 _ rfl)
          have hc1 := (hw.cell (p := ⟨W4.heap.size, 1, none⟩) bx.lt).trans (bx.c 1 _ rfl)
          have e7 : Fr.tmps[7]? = some (.pointer (some ⟨W4.heap.size, 0, none⟩)) := at_out hEA (d := 7) (by kernel_rfl); simp [execOp, e7, hc0, hc1, go_sem]
        · refine ob_val (want_is hEA (g := 35) (x := false) (b := false) rfl rfl rfl rfl) (by kernel_rfl) (fun ph w' hp hpm hw => ?_)
          simp [execOp, go_sem]
        · refine ob_val (want_is hEA (g := 35) (x := false) (b := false) rfl rfl rfl rfl) (by kernel_rfl) (fun ph w' hp hpm hw => ?_)
          have e57 : Fr.tmps[57]? = some (.agg #[.int .i64 0, .int .i64 0]) := hEA.dst 36 _ 57 rfl rfl; have e58 : Fr.tmps[58]? = some (.agg #[.int .i64 0, .int .i64 0]) := hEA.dst 37 _ 58 rfl rfl; simp [execOp, e57, e58, go_sem]
        · refine ob_val (want_is hEA (g := 29) (x := true) (b := true) rfl rfl rfl rfl) (by kernel_rfl) (fun ph w' hp hpm hw => ?_)
          have e56 : Fr.tmps[56]? = some (.bool false) := hEA.dst 35 _ 56 rfl rfl; have e59 : Fr.tmps[59]? = some (.bool true) := hEA.dst 38 _ 59 rfl rfl; simp [execOp, e56, e59, go_sem]
        · refine ob_val (want_none rfl) (by kernel_rfl) (fun ph w' hp hpm hw => ?_)
          have e50 : Fr.tmps[50]? = some (.bool true) := hEA.dst 29 _ 50 rfl rfl; have e60 : Fr.tmps[60]? = some (.bool true) := hEA.dst 39 _ 60 rfl rfl; simp [execOp, e50, e60, go_sem]
        · exact ob_move _ rfl (want_none rfl) (by kernel_rfl) (eval_dst hEA (j := 40) rfl rfl)
        · exact ob_move _ rfl (want_is hEA (g := 41) (x := true) (b := true) rfl rfl rfl rfl) (by kernel_rfl) (eval_out hEA (d := 6) (by kernel_rfl))
        · refine ob_val (want_is hEA (g := 41) (x := true) (b := true) rfl rfl rfl rfl) (by kernel_rfl) (fun ph w' hp hpm hw => ?_)
          have e63 : Fr.tmps[63]? = some (.pointer (some ⟨gb, 0, none⟩)) := hEA.dst 42 _ 63 rfl rfl; simp [execOp, e63, go_sem]
        · refine ob_val (want_is hEA (g := 41) (x := true) (b := true) rfl rfl rfl rfl) (by kernel_rfl) (fun ph w' hp hpm hw => ?_)
          have e64 : Fr.tmps[64]? = some (.pointer (some ⟨gb, 0, none⟩)) := hEA.dst 43 _ 64 rfl rfl; simp [execOp, e64, go_sem]
        · refine ob_val (want_is hEA (g := 41) (x := true) (b := true) rfl rfl rfl rfl) (by kernel_rfl) (fun ph w' hp hpm hw => ?_)
          have hc0 := (hw.cell (p := ⟨gb, 1, none⟩) lb.lt).trans bB
          have e65 : Fr.tmps[65]? = some (.pointer (some ⟨gb, 1, none⟩)) := hEA.dst 44 _ 65 rfl rfl; simp [execOp, e65, hc0, go_sem]
        · refine ob_val (want_is hEA (g := 41) (x := true) (b := true) rfl rfl rfl rfl) (by kernel_rfl) (fun ph w' hp hpm hw => ?_)
          have e66 : Fr.tmps[66]? = some (.bool true) := hEA.dst 45 _ 66 rfl rfl; simp [execOp, e66, go_sem]
        · exact ob_move _ rfl (want_is hEA (g := 41) (x := true) (b := true) rfl rfl rfl rfl) (by kernel_rfl) (eval_dst hEA (j := 46) rfl rfl)
        · refine ob_val (want_is hEA (g := 47) (x := false) (b := false) rfl rfl rfl rfl) (by kernel_rfl) (fun ph w' hp hpm hw => ?_)
          have hc0 := (hw.cell (p := ⟨W4.heap.size + 1, 0, none⟩) bY.lt).trans (bY.c 0 _ rfl)
          have hc1 := (hw.cell (p := ⟨W4.heap.size + 1, 1, none⟩) bY.lt).trans (bY.c 1 _ rfl)
          have hc2 := (hw.cell (p := ⟨W4.heap.size + 1, 2, none⟩) bY.lt).trans (bY.c 2 _ rfl)
          have e8 : Fr.tmps[8]? = some (.pointer (some ⟨W4.heap.size + 1, 0, none⟩)) := at_out hEA (d := 8) (by kernel_rfl); simp [execOp, e8, hc0, hc1, hc2, go_sem]
        · refine ob_val (want_is hEA (g := 47) (x := false) (b := false) rfl rfl rfl rfl) (by kernel_rfl) (fun ph w' hp hpm hw => ?_)
          simp [execOp, go_sem]
        · refine ob_val (want_is hEA (g := 47) (x := false) (b := false) rfl rfl rfl rfl) (by kernel_rfl) (fun ph w' hp hpm hw => ?_)
          have e69 : Fr.tmps[69]? = some (.agg #[.int .i64 0, .int .i64 0, .int .i64 0]) := hEA.dst 48 _ 69 rfl rfl; have e70 : Fr.tmps[70]? = some (.agg #[.int .i64 0, .int .i64 0, .int .i64 0]) := hEA.dst 49 _ 70 rfl rfl; simp [execOp, e69, e70, go_sem]
        · refine ob_val (want_is hEA (g := 41) (x := true) (b := true) rfl rfl rfl rfl) (by kernel_rfl) (fun ph w' hp hpm hw => ?_)
          have e68 : Fr.tmps[68]? = some (.bool false) := hEA.dst 47 _ 68 rfl rfl; have e71 : Fr.tmps[71]? = some (.bool true) := hEA.dst 50 _ 71 rfl rfl; simp [execOp, e68, e71, go_sem]
        · refine ob_val (want_none rfl) (by kernel_rfl) (fun ph w' hp hpm hw => ?_)
          have e62 : Fr.tmps[62]? = some (.bool true) := hEA.dst 41 _ 62 rfl rfl; have e72 : Fr.tmps[72]? = some (.bool true) := hEA.dst 51 _ 72 rfl rfl; simp [execOp, e62, e72, go_sem]
        · exact ob_move _ rfl (want_none rfl) (by kernel_rfl) (eval_dst hEA (j := 52) rfl rfl)
        · exact ob_move _ rfl (want_is hEA (g := 53) (x := true) (b := true) rfl rfl rfl rfl) (by kernel_rfl) (eval_out hEA (d := 5) (by kernel_rfl))
        · refine ob_val (want_is hEA (g := 53) (x := true) (b := true) rfl rfl rfl rfl) (by kernel_rfl) (fun ph w' hp hpm hw => ?_)
          have e75 : Fr.tmps[75]? = some (.pointer (some ⟨ga, 0, none⟩)) := hEA.dst 54 _ 75 rfl rfl; simp [execOp, e75, go_sem]
        · refine ob_val (want_is hEA (g := 53) (x := true) (b := true) rfl rfl rfl rfl) (by kernel_rfl) (fun ph w' hp hpm hw => ?_)
          have e76 : Fr.tmps[76]? = some (.pointer (some ⟨ga, 0, none⟩)) := hEA.dst 55 _ 76 rfl rfl; simp [execOp, e76, go_sem]
        · refine ob_val (want_is hEA (g := 53) (x := true) (b := true) rfl rfl rfl rfl) (by kernel_rfl) (fun ph w' hp hpm hw => ?_)
          have hc0 := (hw.cell (p := ⟨ga, 1, none⟩) la.lt).trans bA
          have e77 : Fr.tmps[77]? = some (.pointer (some ⟨ga, 1, none⟩)) := hEA.dst 56 _ 77 rfl rfl; simp [execOp, e77, hc0, go_sem]
        · exact ob_move _ rfl (want_is hEA (g := 53) (x := true) (b := true) rfl rfl rfl rfl) (by kernel_rfl) (eval_dst hEA (j := 57) rfl rfl)
        · exact ob_skip (want_is hEA (g := 58) (x := true) (b := false) rfl rfl rfl rfl) (by kernel_rfl) rfl
        · exact ob_skip (want_is hEA (g := 58) (x := true) (b := false) rfl rfl rfl rfl) (by kernel_rfl) rfl
        · refine ob_val (want_is hEA (g := 53) (x := true) (b := true) rfl rfl rfl rfl) (by kernel_rfl) (fun ph w' hp hpm hw => ?_)
          have e79 : Fr.tmps[79]? = some (.bool true) := hEA.dst 58 _ 79 rfl rfl; have e81 : Fr.tmps[81]? = some (undef) := hEA.dst 60 _ 81 rfl rfl; simp [execOp, e79, e81, go_sem]
        · refine ob_val (want_none rfl) (by kernel_rfl) (fun ph w' hp hpm hw => ?_)
          have e74 : Fr.tmps[74]? = some (.bool true) := hEA.dst 53 _ 74 rfl rfl; have e82 : Fr.tmps[82]? = some (.bool true) := hEA.dst 61 _ 82 rfl rfl; simp [execOp, e74, e82, go_sem]
        · exact ob_move _ rfl (want_none rfl) (by kernel_rfl) (eval_dst hEA (j := 62) rfl rfl)
        · exact ob_move _ rfl (want_is hEA (g := 63) (x := true) (b := true) rfl rfl rfl rfl) (by kernel_rfl) (eval_out hEA (d := 6) (by kernel_rfl))
        · refine ob_val (want_is hEA (g := 63) (x := true) (b := true) rfl rfl rfl rfl) (by kernel_rfl) (fun ph w' hp hpm hw => ?_)
          have e85 : Fr.tmps[85]? = some (.pointer (some ⟨gb, 0, none⟩)) := hEA.dst 64 _ 85 rfl rfl; simp [execOp, e85, go_sem]
        · refine ob_val (want_is hEA (g := 63) (x := true) (b := true) rfl rfl rfl rfl) (by kernel_rfl) (fun ph w' hp hpm hw => ?_)
          have e86 : Fr.tmps[86]? = some (.pointer (some ⟨gb, 0, none⟩)) := hEA.dst 65 _ 86 rfl rfl; simp [execOp, e86, go_sem]
        · refine ob_val (want_is hEA (g := 63) (x := true) (b := true) rfl rfl rfl rfl) (by kernel_rfl) (fun ph w' hp hpm hw => ?_)
          have hc0 := (hw.cell (p := ⟨gb, 1, none⟩) lb.lt).trans bB
          have e87 : Fr.tmps[87]? = some (.pointer (some ⟨gb, 1, none⟩)) := hEA.dst 66 _ 87 rfl rfl; simp [execOp, e87, hc0, go_sem]
        · exact ob_move _ rfl (want_is hEA (g := 63) (x := true) (b := true) rfl rfl rfl rfl) (by kernel_rfl) (eval_dst hEA (j := 67) rfl rfl)
        · exact ob_skip (want_is hEA (g := 68) (x := true) (b := false) rfl rfl rfl rfl) (by kernel_rfl) rfl
        · exact ob_skip (want_is hEA (g := 68) (x := true) (b := false) rfl rfl rfl rfl) (by kernel_rfl) rfl
        · refine ob_val (want_is hEA (g := 63) (x := true) (b := true) rfl rfl rfl rfl) (by kernel_rfl) (fun ph w' hp hpm hw => ?_)
          have e89 : Fr.tmps[89]? = some (.bool true) := hEA.dst 68 _ 89 rfl rfl; have e91 : Fr.tmps[91]? = some (undef) := hEA.dst 70 _ 91 rfl rfl; simp [execOp, e89, e91, go_sem]
        · refine ob_val (want_none rfl) (by kernel_rfl) (fun ph w' hp hpm hw => ?_)
          have e84 : Fr.tmps[84]? = some (.bool true) := hEA.dst 63 _ 84 rfl rfl; have e92 : Fr.tmps[92]? = some (.bool true) := hEA.dst 71 _ 92 rfl rfl; simp [execOp, e84, e92, go_sem]
        · refine ob_val (want_none rfl) (by kernel_rfl) (fun ph w' hp hpm hw => ?_)
          have e93 : Fr.tmps[93]? = some (.bool true) := hEA.dst 72 _ 93 rfl rfl; simp [execOp, e93, go_sem]
      · intro w' hw
        simp only [laid, Act.put, List.setIfInBounds_toArray, List.set_cons_succ, List.set_cons_zero, List.getD_cons_succ, List.getD_cons_zero, Nat.zero_add, Nat.reduceAdd]
        go_wp2_with fail
        go_ret
        exact ⟨rfl, B5.trans (hw.mono B5.size)⟩
    ·
      have bA : W5.cell? ⟨ga, 1, none⟩ = some (.bool true) := la.bad
      have bB : W5.cell? ⟨gb, 1, none⟩ = some (.bool false) := lb.bad
      refine wp_region_line (fun i => ([.bool true, .bool true, .agg #[.int .i64 a, .int .i64 b], .bool false, .bool true, .bool true, undef, undef, undef, undef, undef, undef, undef, .bool true, .bool true, .bool true, .agg #[.int .i64 c, .int .i64 d, .int .i64 u], .bool false, .bool true, .bool true, undef, undef, undef, undef, undef, undef, undef, .bool true, .bool true, .bool true, .pointer (some ⟨ga, 0, none⟩), .pointer (some ⟨ga, 0, none⟩), .pointer (some ⟨ga, 1, none⟩), .bool true, .bool false, .bool false, .agg #[.int .i64 0, .int .i64 0], .agg #[.int .i64 0, .int .i64 0], .bool true, .bool true, .bool true, .bool true, .pointer (some ⟨gb, 0, none⟩), .pointer (some ⟨gb, 0, none⟩), .pointer (some ⟨gb, 1, none⟩), .bool false, .bool true, .bool true, undef, undef, undef, .bool true, .bool true, .bool true, .pointer (some ⟨ga, 0, none⟩), .pointer (some ⟨ga, 0, none⟩), .pointer (some ⟨ga, 1, none⟩), .bool true, .bool true, undef, undef, .bool true, .bool true, .bool true, .pointer (some ⟨gb, 0, none⟩), .pointer (some ⟨gb, 0, none⟩), .pointer (some ⟨gb, 1, none⟩), .bool false, .bool false, .agg #[.int .i64 y0, .int .i64 y1, .int .i64 y2], .bool true, .bool true, .bool true, .bool true] : List Value).getD i undef) [0, 3, 17, 70] [0, 1, 1, 1, 2, 2, 2, 2, 2, 2, 2, 2, 2, 2, 2, 2, 2, 2, 3, 3, 3, 3, 3, 3, 3, 3, 3, 3, 3, 3, 3, 3, 3, 3, 3, 3, 3, 3, 3, 3, 3, 3, 3, 3, 3, 3, 3, 3, 3, 3, 3, 3, 3, 3, 3, 3, 3, 3, 3, 3, 3, 3, 3, 3, 3, 3, 3, 3, 3, 3, 3, 4, 4, 4] (fun _ w' => Below W5.heap.size W5 w') (by kernel_rfl) (⟨rfl, rfl, rfl, Nat.le_refl _, fun _ _ => rfl⟩) ?_ ?_
      · refine Obs_of_endsL (by kernel_rfl) ?_
        intro Fr hEA
        refine ⟨?_, ?_, ?_, ?_, ?_, ?_, ?_, ?_, ?_, ?_, ?_, ?_, ?_, ?_, ?_, ?_, ?_, ?_, ?_, ?_, ?_, ?_, ?_, ?_, ?_, ?_, ?_, ?_, ?_, ?_, ?_, ?_, ?_, ?_, ?_, ?_, ?_, ?_, ?_, ?_, ?_, ?_, ?_, ?_, ?_, ?_, ?_, ?_, ?_, ?_, ?_, ?_, ?_, ?_, ?_, ?_, ?_, ?_, ?_, ?_, ?_, ?_, ?_, ?_, ?_, ?_, ?_, ?_, ?_, ?_, ?_, ?_, ?_, ?_, trivial⟩
        · refine ob_call (q := 0) (f := 8) (args := #[]) (want_none rfl) (by kernel_rfl) (fun w' => by simp [go_sem]) ?_
          intro w' hw
          refine (Calls.mono (R := fun E W' => E = .returned (.bool true) ∧ Below w'.heap.size w' W') (awake8_any w') ?_)
          rintro e w2 ⟨rfl, hb⟩
          exact ⟨rfl, hw.trans (hb.mono hw.size)⟩
        · exact ob_move _ rfl (want_none rfl) (by kernel_rfl) (eval_dst hEA (j := 0) rfl rfl)
        · refine ob_val (want_is hEA (g := 1) (x := true) (b := true) rfl rfl rfl rfl) (by kernel_rfl) (fun ph w' hp hpm hw => ?_)
          have hc0 := (hw.cell (p := ⟨w.heap.size, 0, none⟩) bm.lt).trans (bm.c 0 _ rfl)
          have hc1 := (hw.cell (p := ⟨w.heap.size, 1, none⟩) bm.lt).trans (bm.c 1 _ rfl)
          have e2 : Fr.tmps[2]? = some (.pointer (some ⟨w.heap.size, 0, none⟩)) := at_out hEA (d := 2) (by kernel_rfl); simp [execOp, e2, hc0, hc1, go_sem]
        · refine ob_call (q := 1) (f := 11) (args := #[.agg #[.int .i64 a, .int .i64 b]]) (want_is hEA (g := 1) (x := true) (b := true) rfl rfl rfl rfl) (by kernel_rfl) (fun w' => by have e23 : Fr.tmps[23]? = some (.agg #[.int .i64 a, .int .i64 b]) := hEA.dst 2 _ 23 rfl rfl; simp [e23, go_sem]) ?_
          intro w' hw
          refine (Calls.mono (R := fun E W' => E = .returned (.bool false) ∧ Below w'.heap.size w' W') (by have := mright_any a b w'; rwa [hk] at this) ?_)
          rintro e w2 ⟨rfl, hb⟩
          exact ⟨rfl, hw.trans (hb.mono hw.size)⟩
        · refine ob_val (want_is hEA (g := 1) (x := true) (b := true) rfl rfl rfl rfl) (by kernel_rfl) (fun ph w' hp hpm hw => ?_)
          have e24 : Fr.tmps[24]? = some (.bool false) := hEA.dst 3 _ 24 rfl rfl; simp [execOp, e24, go_sem]
        · exact ob_move _ rfl (want_is hEA (g := 1) (x := true) (b := true) rfl rfl rfl rfl) (by kernel_rfl) (eval_dst hEA (j := 4) rfl rfl)
        · exact ob_skip (want_is hEA (g := 5) (x := true) (b := false) rfl rfl rfl rfl) (by kernel_rfl) rfl
        · exact ob_skip (want_is hEA (g := 5) (x := true) (b := false) rfl rfl rfl rfl) (by kernel_rfl) rfl
        · exact ob_skip (want_is hEA (g := 5) (x := true) (b := false) rfl rfl rfl rfl) (by kernel_rfl) rfl
        · exact ob_skip (want_is hEA (g := 5) (x := true) (b := false) rfl rfl rfl rfl) (by kernel_rfl) rfl
        · exact ob_skip (want_undef hEA (g := 9) rfl rfl rfl rfl) (by kernel_rfl) rfl
        · exact ob_skip (want_undef hEA (g := 9) rfl rfl rfl rfl) (by kernel_rfl) rfl
        · exact ob_skip (want_is hEA (g := 5) (x := true) (b := false) rfl rfl rfl rfl) (by kernel_rfl) rfl
        · refine ob_val (want_is hEA (g := 1) (x := true) (b := true) rfl rfl rfl rfl) (by kernel_rfl) (fun ph w' hp hpm hw => ?_)
          have e26 : Fr.tmps[26]? = some (.bool true) := hEA.dst 5 _ 26 rfl rfl; have e33 : Fr.tmps[33]? = some (undef) := hEA.dst 12 _ 33 rfl rfl; simp [execOp, e26, e33, go_sem]
        · refine ob_val (want_none rfl) (by kernel_rfl) (fun ph w' hp hpm hw => ?_)
          have e22 : Fr.tmps[22]? = some (.bool true) := hEA.dst 1 _ 22 rfl rfl; have e34 : Fr.tmps[34]? = some (.bool true) := hEA.dst 13 _ 34 rfl rfl; simp [execOp, e22, e34, go_sem]
        · exact ob_move _ rfl (want_none rfl) (by kernel_rfl) (eval_dst hEA (j := 14) rfl rfl)
        · refine ob_val (want_is hEA (g := 15) (x := true) (b := true) rfl rfl rfl rfl) (by kernel_rfl) (fun ph w' hp hpm hw => ?_)
          have hc0 := (hw.cell (p := ⟨w.heap.size + 1, 0, none⟩) bv.lt).trans (bv.c 0 _ rfl)
          have hc1 := (hw.cell (p := ⟨w.heap.size + 1, 1, none⟩) bv.lt).trans (bv.c 1 _ rfl)
          have hc2 := (hw.cell (p := ⟨w.heap.size + 1, 2, none⟩) bv.lt).trans (bv.c 2 _ rfl)
          have e3 : Fr.tmps[3]? = some (.pointer (some ⟨w.heap.size + 1, 0, none⟩)) := at_out hEA (d := 3) (by kernel_rfl); simp [execOp, e3, hc0, hc1, hc2, go_sem]
        · refine ob_call (q := 2) (f := 15) (args := #[.agg #[.int .i64 c, .int .i64 d, .int .i64 u]]) (want_is hEA (g := 15) (x := true) (b := true) rfl rfl rfl rfl) (by kernel_rfl) (fun w' => by have e37 : Fr.tmps[37]? = some (.agg #[.int .i64 c, .int .i64 d, .int .i64 u]) := hEA.dst 16 _ 37 rfl rfl; simp [e37, go_sem]) ?_
          intro w' hw
          refine (Calls.mono (R := fun E W' => E = .returned (.bool false) ∧ Below w'.heap.size w' W') (by have := id_any c d u w'; rwa [hv] at this) ?_)
          rintro e w2 ⟨rfl, hb⟩
          exact ⟨rfl, hw.trans (hb.mono hw.size)⟩
        · refine ob_val (want_is hEA (g := 15) (x := true) (b := true) rfl rfl rfl rfl) (by kernel_rfl) (fun ph w' hp hpm hw => ?_)
          have e38 : Fr.tmps[38]? = some (.bool false) := hEA.dst 17 _ 38 rfl rfl; simp [execOp, e38, go_sem]
        · exact ob_move _ rfl (want_is hEA (g := 15) (x := true) (b := true) rfl rfl rfl rfl) (by kernel_rfl) (eval_dst hEA (j := 18) rfl rfl)
        · exact ob_skip (want_is hEA (g := 19) (x := true) (b := false) rfl rfl rfl rfl) (by kernel_rfl) rfl
        · exact ob_skip (want_is hEA (g := 19) (x := true) (b := false) rfl rfl rfl rfl) (by kernel_rfl) rfl
        · exact ob_skip (want_is hEA (g := 19) (x := true) (b := false) rfl rfl rfl rfl) (by kernel_rfl) rfl
        · exact ob_skip (want_is hEA (g := 19) (x := true) (b := false) rfl rfl rfl rfl) (by kernel_rfl) rfl
        · exact ob_skip (want_undef hEA (g := 23) rfl rfl rfl rfl) (by kernel_rfl) rfl
        · exact ob_skip (want_undef hEA (g := 23) rfl rfl rfl rfl) (by kernel_rfl) rfl
        · exact ob_skip (want_is hEA (g := 19) (x := true) (b := false) rfl rfl rfl rfl) (by kernel_rfl) rfl
        · refine ob_val (want_is hEA (g := 15) (x := true) (b := true) rfl rfl rfl rfl) (by kernel_rfl) (fun ph w' hp hpm hw => ?_)
          have e40 : Fr.tmps[40]? = some (.bool true) := hEA.dst 19 _ 40 rfl rfl; have e47 : Fr.tmps[47]? = some (undef) := hEA.dst 26 _ 47 rfl rfl; simp [execOp, e40, e47, go_sem]
        · refine ob_val (want_none rfl) (by kernel_rfl) (fun ph w' hp hpm hw => ?_)
          have e36 : Fr.tmps[36]? = some (.bool true) := hEA.dst 15 _ 36 rfl rfl; have e48 : Fr.tmps[48]? = some (.bool true) := hEA.dst 27 _ 48 rfl rfl; simp [execOp, e36, e48, go_sem]
        · exact ob_move _ rfl (want_none rfl) (by kernel_rfl) (eval_dst hEA (j := 28) rfl rfl)
        · exact ob_move _ rfl (want_is hEA (g := 29) (x := true) (b := true) rfl rfl rfl rfl) (by kernel_rfl) (eval_out hEA (d := 5) (by kernel_rfl))
        · refine ob_val (want_is hEA (g := 29) (x := true) (b := true) rfl rfl rfl rfl) (by kernel_rfl) (fun ph w' hp hpm hw => ?_)
          have e51 : Fr.tmps[51]? = some (.pointer (some ⟨ga, 0, none⟩)) := hEA.dst 30 _ 51 rfl rfl; simp [execOp, e51, go_sem]
        · refine ob_val (want_is hEA (g := 29) (x := true) (b := true) rfl rfl rfl rfl) (by kernel_rfl) (fun ph w' hp hpm hw => ?_)
          have e52 : Fr.tmps[52]? = some (.pointer (some ⟨ga, 0, none⟩)) := hEA.dst 31 _ 52 rfl rfl; simp [execOp, e52, go_sem]
        · refine ob_val (want_is hEA (g := 29) (x := true) (b := true) rfl rfl rfl rfl) (by kernel_rfl) (fun ph w' hp hpm hw => ?_)
          have hc0 := (hw.cell (p := ⟨ga, 1, none⟩) la.lt).trans bA
          have e53 : Fr.tmps[53]? = some (.pointer (some ⟨ga, 1, none⟩)) := hEA.dst 32 _ 53 rfl rfl; simp [execOp, e53, hc0, go_sem]
        · refine ob_val (want_is hEA (g := 29) (x := true) (b := true) rfl rfl rfl rfl) (by kernel_rfl) (fun ph w' hp hpm hw => ?_)
          have e54 : Fr.tmps[54]? = some (.bool true) := hEA.dst 33 _ 54 rfl rfl; simp [execOp, e54, go_sem]
        · exact ob_move _ rfl (want_is hEA (g := 29) (x := true) (b := true) rfl rfl rfl rfl) (by kernel_rfl) (eval_dst hEA (j := 34) rfl rfl)
        · refine ob_val (want_is hEA (g := 35) (x := false) (b := false) rfl rfl rfl rfl) (by kernel_rfl) (fun ph w' hp hpm hw => ?_)
          have hc0 := (hw.cell (p := ⟨W4.heap.size, 0, none⟩) bx.lt).trans (bx.c 0 _ rfl)
          have hc1 := (hw.cell (p := ⟨W4.heap.size, 1, none⟩) bx.lt).trans (bx.c 1 _ rfl)
          have e7 : Fr.tmps[7]? = some (.pointer (some ⟨W4.heap.size, 0, none⟩)) := at_out hEA (d := 7) (by kernel_rfl); simp [execOp, e7, hc0, hc1, go_sem]
        · refine ob_val (want_is hEA (g := 35) (x := false) (b := false) rfl rfl rfl rfl) (by kernel_rfl) (fun ph w' hp hpm hw => ?_)
          simp [execOp, go_sem]
        · refine ob_val (want_is hEA (g := 35) (x := false) (b := false) rfl rfl rfl rfl) (by kernel_rfl) (fun ph w' hp hpm hw => ?_)
          have e57 : Fr.tmps[57]? = some (.agg #[.int .i64 0, .int .i64 0]) := hEA.dst 36 _ 57 rfl rfl; have e58 : Fr.tmps[58]? = some (.agg #[.int .i64 0, .int .i64 0]) := hEA.dst 37 _ 58 rfl rfl; simp [execOp, e57, e58, go_sem]
        · refine ob_val (want_is hEA (g := 29) (x := true) (b := true) rfl rfl rfl rfl) (by kernel_rfl) (fun ph w' hp hpm hw => ?_)
          have e56 : Fr.tmps[56]? = some (.bool false) := hEA.dst 35 _ 56 rfl rfl; have e59 : Fr.tmps[59]? = some (.bool true) := hEA.dst 38 _ 59 rfl rfl; simp [execOp, e56, e59, go_sem]
        · refine ob_val (want_none rfl) (by kernel_rfl) (fun ph w' hp hpm hw => ?_)
          have e50 : Fr.tmps[50]? = some (.bool true) := hEA.dst 29 _ 50 rfl rfl; have e60 : Fr.tmps[60]? = some (.bool true) := hEA.dst 39 _ 60 rfl rfl; simp [execOp, e50, e60, go_sem]
        · exact ob_move _ rfl (want_none rfl) (by kernel_rfl) (eval_dst hEA (j := 40) rfl rfl)
        · exact ob_move _ rfl (want_is hEA (g := 41) (x := true) (b := true) rfl rfl rfl rfl) (by kernel_rfl) (eval_out hEA (d := 6) (by kernel_rfl))
        · refine ob_val (want_is hEA (g := 41) (x := true) (b := true) rfl rfl rfl rfl) (by kernel_rfl) (fun ph w' hp hpm hw => ?_)
          have e63 : Fr.tmps[63]? = some (.pointer (some ⟨gb, 0, none⟩)) := hEA.dst 42 _ 63 rfl rfl; simp [execOp, e63, go_sem]
        · refine ob_val (want_is hEA (g := 41) (x := true) (b := true) rfl rfl rfl rfl) (by kernel_rfl) (fun ph w' hp hpm hw => ?_)
          have e64 : Fr.tmps[64]? = some (.pointer (some ⟨gb, 0, none⟩)) := hEA.dst 43 _ 64 rfl rfl; simp [execOp, e64, go_sem]
        · refine ob_val (want_is hEA (g := 41) (x := true) (b := true) rfl rfl rfl rfl) (by kernel_rfl) (fun ph w' hp hpm hw => ?_)
          have hc0 := (hw.cell (p := ⟨gb, 1, none⟩) lb.lt).trans bB
          have e65 : Fr.tmps[65]? = some (.pointer (some ⟨gb, 1, none⟩)) := hEA.dst 44 _ 65 rfl rfl; simp [execOp, e65, hc0, go_sem]
        · refine ob_val (want_is hEA (g := 41) (x := true) (b := true) rfl rfl rfl rfl) (by kernel_rfl) (fun ph w' hp hpm hw => ?_)
          have e66 : Fr.tmps[66]? = some (.bool false) := hEA.dst 45 _ 66 rfl rfl; simp [execOp, e66, go_sem]
        · exact ob_move _ rfl (want_is hEA (g := 41) (x := true) (b := true) rfl rfl rfl rfl) (by kernel_rfl) (eval_dst hEA (j := 46) rfl rfl)
        · exact ob_skip (want_is hEA (g := 47) (x := true) (b := false) rfl rfl rfl rfl) (by kernel_rfl) rfl
        · exact ob_skip (want_is hEA (g := 47) (x := true) (b := false) rfl rfl rfl rfl) (by kernel_rfl) rfl
        · exact ob_skip (want_is hEA (g := 47) (x := true) (b := false) rfl rfl rfl rfl) (by kernel_rfl) rfl
        · refine ob_val (want_is hEA (g := 41) (x := true) (b := true) rfl rfl rfl rfl) (by kernel_rfl) (fun ph w' hp hpm hw => ?_)
          have e68 : Fr.tmps[68]? = some (.bool true) := hEA.dst 47 _ 68 rfl rfl; have e71 : Fr.tmps[71]? = some (undef) := hEA.dst 50 _ 71 rfl rfl; simp [execOp, e68, e71, go_sem]
        · refine ob_val (want_none rfl) (by kernel_rfl) (fun ph w' hp hpm hw => ?_)
          have e62 : Fr.tmps[62]? = some (.bool true) := hEA.dst 41 _ 62 rfl rfl; have e72 : Fr.tmps[72]? = some (.bool true) := hEA.dst 51 _ 72 rfl rfl; simp [execOp, e62, e72, go_sem]
        · exact ob_move _ rfl (want_none rfl) (by kernel_rfl) (eval_dst hEA (j := 52) rfl rfl)
        · exact ob_move _ rfl (want_is hEA (g := 53) (x := true) (b := true) rfl rfl rfl rfl) (by kernel_rfl) (eval_out hEA (d := 5) (by kernel_rfl))
        · refine ob_val (want_is hEA (g := 53) (x := true) (b := true) rfl rfl rfl rfl) (by kernel_rfl) (fun ph w' hp hpm hw => ?_)
          have e75 : Fr.tmps[75]? = some (.pointer (some ⟨ga, 0, none⟩)) := hEA.dst 54 _ 75 rfl rfl; simp [execOp, e75, go_sem]
        · refine ob_val (want_is hEA (g := 53) (x := true) (b := true) rfl rfl rfl rfl) (by kernel_rfl) (fun ph w' hp hpm hw => ?_)
          have e76 : Fr.tmps[76]? = some (.pointer (some ⟨ga, 0, none⟩)) := hEA.dst 55 _ 76 rfl rfl; simp [execOp, e76, go_sem]
        · refine ob_val (want_is hEA (g := 53) (x := true) (b := true) rfl rfl rfl rfl) (by kernel_rfl) (fun ph w' hp hpm hw => ?_)
          have hc0 := (hw.cell (p := ⟨ga, 1, none⟩) la.lt).trans bA
          have e77 : Fr.tmps[77]? = some (.pointer (some ⟨ga, 1, none⟩)) := hEA.dst 56 _ 77 rfl rfl; simp [execOp, e77, hc0, go_sem]
        · exact ob_move _ rfl (want_is hEA (g := 53) (x := true) (b := true) rfl rfl rfl rfl) (by kernel_rfl) (eval_dst hEA (j := 57) rfl rfl)
        · exact ob_skip (want_is hEA (g := 58) (x := true) (b := false) rfl rfl rfl rfl) (by kernel_rfl) rfl
        · exact ob_skip (want_is hEA (g := 58) (x := true) (b := false) rfl rfl rfl rfl) (by kernel_rfl) rfl
        · refine ob_val (want_is hEA (g := 53) (x := true) (b := true) rfl rfl rfl rfl) (by kernel_rfl) (fun ph w' hp hpm hw => ?_)
          have e79 : Fr.tmps[79]? = some (.bool true) := hEA.dst 58 _ 79 rfl rfl; have e81 : Fr.tmps[81]? = some (undef) := hEA.dst 60 _ 81 rfl rfl; simp [execOp, e79, e81, go_sem]
        · refine ob_val (want_none rfl) (by kernel_rfl) (fun ph w' hp hpm hw => ?_)
          have e74 : Fr.tmps[74]? = some (.bool true) := hEA.dst 53 _ 74 rfl rfl; have e82 : Fr.tmps[82]? = some (.bool true) := hEA.dst 61 _ 82 rfl rfl; simp [execOp, e74, e82, go_sem]
        · exact ob_move _ rfl (want_none rfl) (by kernel_rfl) (eval_dst hEA (j := 62) rfl rfl)
        · exact ob_move _ rfl (want_is hEA (g := 63) (x := true) (b := true) rfl rfl rfl rfl) (by kernel_rfl) (eval_out hEA (d := 6) (by kernel_rfl))
        · refine ob_val (want_is hEA (g := 63) (x := true) (b := true) rfl rfl rfl rfl) (by kernel_rfl) (fun ph w' hp hpm hw => ?_)
          have e85 : Fr.tmps[85]? = some (.pointer (some ⟨gb, 0, none⟩)) := hEA.dst 64 _ 85 rfl rfl; simp [execOp, e85, go_sem]
        · refine ob_val (want_is hEA (g := 63) (x := true) (b := true) rfl rfl rfl rfl) (by kernel_rfl) (fun ph w' hp hpm hw => ?_)
          have e86 : Fr.tmps[86]? = some (.pointer (some ⟨gb, 0, none⟩)) := hEA.dst 65 _ 86 rfl rfl; simp [execOp, e86, go_sem]
        · refine ob_val (want_is hEA (g := 63) (x := true) (b := true) rfl rfl rfl rfl) (by kernel_rfl) (fun ph w' hp hpm hw => ?_)
          have hc0 := (hw.cell (p := ⟨gb, 1, none⟩) lb.lt).trans bB
          have e87 : Fr.tmps[87]? = some (.pointer (some ⟨gb, 1, none⟩)) := hEA.dst 66 _ 87 rfl rfl; simp [execOp, e87, hc0, go_sem]
        · exact ob_move _ rfl (want_is hEA (g := 63) (x := true) (b := true) rfl rfl rfl rfl) (by kernel_rfl) (eval_dst hEA (j := 67) rfl rfl)
        · refine ob_val (want_is hEA (g := 68) (x := false) (b := false) rfl rfl rfl rfl) (by kernel_rfl) (fun ph w' hp hpm hw => ?_)
          have hc0 := (hw.cell (p := ⟨W4.heap.size + 1, 0, none⟩) bY.lt).trans (bY.c 0 _ rfl)
          have hc1 := (hw.cell (p := ⟨W4.heap.size + 1, 1, none⟩) bY.lt).trans (bY.c 1 _ rfl)
          have hc2 := (hw.cell (p := ⟨W4.heap.size + 1, 2, none⟩) bY.lt).trans (bY.c 2 _ rfl)
          have e8 : Fr.tmps[8]? = some (.pointer (some ⟨W4.heap.size + 1, 0, none⟩)) := at_out hEA (d := 8) (by kernel_rfl); simp [execOp, e8, hc0, hc1, hc2, go_sem]
        · refine ob_call (q := 3) (f := 15) (args := #[.agg #[.int .i64 y0, .int .i64 y1, .int .i64 y2]]) (want_is hEA (g := 68) (x := false) (b := false) rfl rfl rfl rfl) (by kernel_rfl) (fun w' => by have e90 : Fr.tmps[90]? = some (.agg #[.int .i64 y0, .int .i64 y1, .int .i64 y2]) := hEA.dst 69 _ 90 rfl rfl; simp [e90, go_sem]) ?_
          intro w' hw
          refine (Calls.mono (R := fun E W' => E = .returned (.bool true) ∧ Below w'.heap.size w' W') (by have := id_any y0 y1 y2 w'; rwa [hy] at this) ?_)
          rintro e w2 ⟨rfl, hb⟩
          exact ⟨rfl, hw.trans (hb.mono hw.size)⟩
        · refine ob_val (want_is hEA (g := 63) (x := true) (b := true) rfl rfl rfl rfl) (by kernel_rfl) (fun ph w' hp hpm hw => ?_)
          have e89 : Fr.tmps[89]? = some (.bool false) := hEA.dst 68 _ 89 rfl rfl; have e91 : Fr.tmps[91]? = some (.bool true) := hEA.dst 70 _ 91 rfl rfl; simp [execOp, e89, e91, go_sem]
        · refine ob_val (want_none rfl) (by kernel_rfl) (fun ph w' hp hpm hw => ?_)
          have e84 : Fr.tmps[84]? = some (.bool true) := hEA.dst 63 _ 84 rfl rfl; have e92 : Fr.tmps[92]? = some (.bool true) := hEA.dst 71 _ 92 rfl rfl; simp [execOp, e84, e92, go_sem]
        · refine ob_val (want_none rfl) (by kernel_rfl) (fun ph w' hp hpm hw => ?_)
          have e93 : Fr.tmps[93]? = some (.bool true) := hEA.dst 72 _ 93 rfl rfl; simp [execOp, e93, go_sem]
      · intro w' hw
        simp only [laid, Act.put, List.setIfInBounds_toArray, List.set_cons_succ, List.set_cons_zero, List.getD_cons_succ, List.getD_cons_zero, Nat.zero_add, Nat.reduceAdd]
        go_wp2_with fail
        go_ret
        exact ⟨rfl, B5.trans (hw.mono B5.size)⟩
    ·
      have bA : W5.cell? ⟨ga, 1, none⟩ = some (.bool false) := la.bad
      have bB : W5.cell? ⟨gb, 1, none⟩ = some (.bool false) := lb.bad
      refine wp_region_line (fun i => ([.bool true, .bool true, .agg #[.int .i64 a, .int .i64 b], .bool false, .bool true, .bool true, undef, undef, undef, undef, undef, undef, undef, .bool true, .bool true, .bool true, .agg #[.int .i64 c, .int .i64 d, .int .i64 u], .bool true, .bool false, .bool false, .agg #[.int .i64 c, .int .i64 d, .int .i64 u], .agg #[.int .i64 c, .int .i64 d, .int .i64 u], .bool true, .bool true, .pointer (some ⟨gb, 0, none⟩), .bool true, .bool true, .bool true, .bool true, .bool true, .pointer (some ⟨ga, 0, none⟩), .pointer (some ⟨ga, 0, none⟩), .pointer (some ⟨ga, 1, none⟩), .bool false, .bool true, .bool true, undef, undef, undef, .bool true, .bool true, .bool true, .pointer (some ⟨gb, 0, none⟩), .pointer (some ⟨gb, 0, none⟩), .pointer (some ⟨gb, 1, none⟩), .bool false, .bool true, .bool true, undef, undef, undef, .bool true, .bool true, .bool true, .pointer (some ⟨ga, 0, none⟩), .pointer (some ⟨ga, 0, none⟩), .pointer (some ⟨ga, 1, none⟩), .bool false, .bool false, .agg #[.int .i64 x0, .int .i64 x1], .bool true, .bool true, .bool true, .bool true, .pointer (some ⟨gb, 0, none⟩), .pointer (some ⟨gb, 0, none⟩), .pointer (some ⟨gb, 1, none⟩), .bool false, .bool false, .agg #[.int .i64 c, .int .i64 d, .int .i64 u], .bool true, .bool true, .bool true, .bool true] : List Value).getD i undef) [0, 3, 17, 25, 60, 70] [0, 1, 1, 1, 2, 2, 2, 2, 2, 2, 2, 2, 2, 2, 2, 2, 2, 2, 3, 3, 3, 3, 3, 3, 3, 3, 4, 4, 4, 4, 4, 4, 4, 4, 4, 4, 4, 4, 4, 4, 4, 4, 4, 4, 4, 4, 4, 4, 4, 4, 4, 4, 4, 4, 4, 4, 4, 4, 4, 4, 4, 5, 5, 5, 5, 5, 5, 5, 5, 5, 5, 6, 6, 6] (fun _ w' => Below W5.heap.size W5 w') (by kernel_rfl) (⟨rfl, rfl, rfl, Nat.le_refl _, fun _ _ => rfl⟩) ?_ ?_
      · refine Obs_of_endsL (by kernel_rfl) ?_
        intro Fr hEA
        refine ⟨?_, ?_, ?_, ?_, ?_, ?_, ?_, ?_, ?_, ?_, ?_, ?_, ?_, ?_, ?_, ?_, ?_, ?_, ?_, ?_, ?_, ?_, ?_, ?_, ?_, ?_, ?_, ?_, ?_, ?_, ?_, ?_, ?_, ?_, ?_, ?_, ?_, ?_, ?_, ?_, ?_, ?_, ?_, ?_, ?_, ?_, ?_, ?_, ?_, ?_, ?_, ?_, ?_, ?_, ?_, ?_, ?_, ?_, ?_, ?_, ?_, ?_, ?_, ?_, ?_, ?_, ?_, ?_, ?_, ?_, ?_, ?_, ?_, ?_, trivial⟩
        · refine ob_call (q := 0) (f := 8) (args := #[]) (want_none rfl) (by kernel_rfl) (fun w' => by simp [go_sem]) ?_
          intro w' hw
          refine (Calls.mono (R := fun E W' => E = .returned (.bool true) ∧ Below w'.heap.size w' W') (awake8_any w') ?_)
          rintro e w2 ⟨rfl, hb⟩
          exact ⟨rfl, hw.trans (hb.mono hw.size)⟩
        · exact ob_move _ rfl (want_none rfl) (by kernel_rfl) (eval_dst hEA (j := 0) rfl rfl)
        · refine ob_val (want_is hEA (g := 1) (x := true) (b := true) rfl rfl rfl rfl) (by kernel_rfl) (fun ph w' hp hpm hw => ?_)
          have hc0 := (hw.cell (p := ⟨w.heap.size, 0, none⟩) bm.lt).trans (bm.c 0 _ rfl)
          have hc1 := (hw.cell (p := ⟨w.heap.size, 1, none⟩) bm.lt).trans (bm.c 1 _ rfl)
          have e2 : Fr.tmps[2]? = some (.pointer (some ⟨w.heap.size, 0, none⟩)) := at_out hEA (d := 2) (by kernel_rfl); simp [execOp, e2, hc0, hc1, go_sem]
        · refine ob_call (q := 1) (f := 11) (args := #[.agg #[.int .i64 a, .int .i64 b]]) (want_is hEA (g := 1) (x := true) (b := true) rfl rfl rfl rfl) (by kernel_rfl) (fun w' => by have e23 : Fr.tmps[23]? = some (.agg #[.int .i64 a, .int .i64 b]) := hEA.dst 2 _ 23 rfl rfl; simp [e23, go_sem]) ?_
          intro w' hw
          refine (Calls.mono (R := fun E W' => E = .returned (.bool false) ∧ Below w'.heap.size w' W') (by have := mright_any a b w'; rwa [hk] at this) ?_)
          rintro e w2 ⟨rfl, hb⟩
          exact ⟨rfl, hw.trans (hb.mono hw.size)⟩
        · refine ob_val (want_is hEA (g := 1) (x := true) (b := true) rfl rfl rfl rfl) (by kernel_rfl) (fun ph w' hp hpm hw => ?_)
          have e24 : Fr.tmps[24]? = some (.bool false) := hEA.dst 3 _ 24 rfl rfl; simp [execOp, e24, go_sem]
        · exact ob_move _ rfl (want_is hEA (g := 1) (x := true) (b := true) rfl rfl rfl rfl) (by kernel_rfl) (eval_dst hEA (j := 4) rfl rfl)
        · exact ob_skip (want_is hEA (g := 5) (x := true) (b := false) rfl rfl rfl rfl) (by kernel_rfl) rfl
        · exact ob_skip (want_is hEA (g := 5) (x := true) (b := false) rfl rfl rfl rfl) (by kernel_rfl) rfl
        · exact ob_skip (want_is hEA (g := 5) (x := true) (b := false) rfl rfl rfl rfl) (by kernel_rfl) rfl
        · exact ob_skip (want_is hEA (g := 5) (x := true) (b := false) rfl rfl rfl rfl) (by kernel_rfl) rfl
        · exact ob_skip (want_undef hEA (g := 9) rfl rfl rfl rfl) (by kernel_rfl) rfl
        · exact ob_skip (want_undef hEA (g := 9) rfl rfl rfl rfl) (by kernel_rfl) rfl
        · exact ob_skip (want_is hEA (g := 5) (x := true) (b := false) rfl rfl rfl rfl) (by kernel_rfl) rfl
        · refine ob_val (want_is hEA (g := 1) (x := true) (b := true) rfl rfl rfl rfl) (by kernel_rfl) (fun ph w' hp hpm hw => ?_)
          have e26 : Fr.tmps[26]? = some (.bool true) := hEA.dst 5 _ 26 rfl rfl; have e33 : Fr.tmps[33]? = some (undef) := hEA.dst 12 _ 33 rfl rfl; simp [execOp, e26, e33, go_sem]
        · refine ob_val (want_none rfl) (by kernel_rfl) (fun ph w' hp hpm hw => ?_)
          have e22 : Fr.tmps[22]? = some (.bool true) := hEA.dst 1 _ 22 rfl rfl; have e34 : Fr.tmps[34]? = some (.bool true) := hEA.dst 13 _ 34 rfl rfl; simp [execOp, e22, e34, go_sem]
        · exact ob_move _ rfl (want_none rfl) (by kernel_rfl) (eval_dst hEA (j := 14) rfl rfl)
        · refine ob_val (want_is hEA (g := 15) (x := true) (b := true) rfl rfl rfl rfl) (by kernel_rfl) (fun ph w' hp hpm hw => ?_)
          have hc0 := (hw.cell (p := ⟨w.heap.size + 1, 0, none⟩) bv.lt).trans (bv.c 0 _ rfl)
          have hc1 := (hw.cell (p := ⟨w.heap.size + 1, 1, none⟩) bv.lt).trans (bv.c 1 _ rfl)
          have hc2 := (hw.cell (p := ⟨w.heap.size + 1, 2, none⟩) bv.lt).trans (bv.c 2 _ rfl)
          have e3 : Fr.tmps[3]? = some (.pointer (some ⟨w.heap.size + 1, 0, none⟩)) := at_out hEA (d := 3) (by kernel_rfl); simp [execOp, e3, hc0, hc1, hc2, go_sem]
        · refine ob_call (q := 2) (f := 15) (args := #[.agg #[.int .i64 c, .int .i64 d, .int .i64 u]]) (want_is hEA (g := 15) (x := true) (b := true) rfl rfl rfl rfl) (by kernel_rfl) (fun w' => by have e37 : Fr.tmps[37]? = some (.agg #[.int .i64 c, .int .i64 d, .int .i64 u]) := hEA.dst 16 _ 37 rfl rfl; simp [e37, go_sem]) ?_
          intro w' hw
          refine (Calls.mono (R := fun E W' => E = .returned (.bool true) ∧ Below w'.heap.size w' W') (by have := id_any c d u w'; rwa [hv] at this) ?_)
          rintro e w2 ⟨rfl, hb⟩
          exact ⟨rfl, hw.trans (hb.mono hw.size)⟩
        · refine ob_val (want_is hEA (g := 15) (x := true) (b := true) rfl rfl rfl rfl) (by kernel_rfl) (fun ph w' hp hpm hw => ?_)
          have e38 : Fr.tmps[38]? = some (.bool true) := hEA.dst 17 _ 38 rfl rfl; simp [execOp, e38, go_sem]
        · exact ob_move _ rfl (want_is hEA (g := 15) (x := true) (b := true) rfl rfl rfl rfl) (by kernel_rfl) (eval_dst hEA (j := 18) rfl rfl)
        · refine ob_val (want_is hEA (g := 19) (x := false) (b := false) rfl rfl rfl rfl) (by kernel_rfl) (fun ph w' hp hpm hw => ?_)
          have hc0 := (hw.cell (p := ⟨W4.heap.size + 1, 0, none⟩) bY.lt).trans (bY.c 0 _ rfl)
          have hc1 := (hw.cell (p := ⟨W4.heap.size + 1, 1, none⟩) bY.lt).trans (bY.c 1 _ rfl)
          have hc2 := (hw.cell (p := ⟨W4.heap.size + 1, 2, none⟩) bY.lt).trans (bY.c 2 _ rfl)
          have e8 : Fr.tmps[8]? = some (.pointer (some ⟨W4.heap.size + 1, 0, none⟩)) := at_out hEA (d := 8) (by kernel_rfl); simp [execOp, e8, hc0, hc1, hc2, go_sem]
        · refine ob_val (want_is hEA (g := 19) (x := false) (b := false) rfl rfl rfl rfl) (by kernel_rfl) (fun ph w' hp hpm hw => ?_)
          have hc0 := (hw.cell (p := ⟨w.heap.size + 1, 0, none⟩) bv.lt).trans (bv.c 0 _ rfl)
          have hc1 := (hw.cell (p := ⟨w.heap.size + 1, 1, none⟩) bv.lt).trans (bv.c 1 _ rfl)
          have hc2 := (hw.cell (p := ⟨w.heap.size + 1, 2, none⟩) bv.lt).trans (bv.c 2 _ rfl)
          have e3 : Fr.tmps[3]? = some (.pointer (some ⟨w.heap.size + 1, 0, none⟩)) := at_out hEA (d := 3) (by kernel_rfl); simp [execOp, e3, hc0, hc1, hc2, go_sem]
        · refine ob_val (want_is hEA (g := 19) (x := false) (b := false) rfl rfl rfl rfl) (by kernel_rfl) (fun ph w' hp hpm hw => ?_)
          have e41 : Fr.tmps[41]? = some (.agg #[.int .i64 c, .int .i64 d, .int .i64 u]) := hEA.dst 20 _ 41 rfl rfl; have e42 : Fr.tmps[42]? = some (.agg #[.int .i64 c, .int .i64 d, .int .i64 u]) := hEA.dst 21 _ 42 rfl rfl; simp [execOp, e41, e42, go_sem]
        · exact ob_move _ rfl (want_is hEA (g := 19) (x := false) (b := false) rfl rfl rfl rfl) (by kernel_rfl) (eval_dst hEA (j := 22) rfl rfl)
        · exact ob_move _ rfl (want_is hEA (g := 23) (x := true) (b := true) rfl rfl rfl rfl) (by kernel_rfl) (eval_out hEA (d := 6) (by kernel_rfl))
        · refine ob_call (q := 3) (f := 27) (args := #[.pointer (some ⟨gb, 0, none⟩)]) (want_is hEA (g := 23) (x := true) (b := true) rfl rfl rfl rfl) (by kernel_rfl) (fun w' => by have e45 : Fr.tmps[45]? = some (.pointer (some ⟨gb, 0, none⟩)) := hEA.dst 24 _ 45 rfl rfl; simp [e45, go_sem]) ?_
          intro w' hw
          refine (leftDone_st gb 100 (some []) w' (lb.next hw)).mono ?_
          rintro e w2 ⟨rfl, rfl⟩
          exact ⟨rfl, hw⟩
        · refine ob_val (want_is hEA (g := 19) (x := false) (b := false) rfl rfl rfl rfl) (by kernel_rfl) (fun ph w' hp hpm hw => ?_)
          have e44 : Fr.tmps[44]? = some (.bool true) := hEA.dst 23 _ 44 rfl rfl; have e46 : Fr.tmps[46]? = some (.bool true) := hEA.dst 25 _ 46 rfl rfl; simp [execOp, e44, e46, go_sem]
        · refine ob_val (want_is hEA (g := 15) (x := true) (b := true) rfl rfl rfl rfl) (by kernel_rfl) (fun ph w' hp hpm hw => ?_)
          have e40 : Fr.tmps[40]? = some (.bool false) := hEA.dst 19 _ 40 rfl rfl; have e47 : Fr.tmps[47]? = some (.bool true) := hEA.dst 26 _ 47 rfl rfl; simp [execOp, e40, e47, go_sem]
        · refine ob_val (want_none rfl) (by kernel_rfl) (fun ph w' hp hpm hw => ?_)
          have e36 : Fr.tmps[36]? = some (.bool true) := hEA.dst 15 _ 36 rfl rfl; have e48 : Fr.tmps[48]? = some (.bool true) := hEA.dst 27 _ 48 rfl rfl; simp [execOp, e36, e48, go_sem]
        · exact ob_move _ rfl (want_none rfl) (by kernel_rfl) (eval_dst hEA (j := 28) rfl rfl)
        · exact ob_move _ rfl (want_is hEA (g := 29) (x := true) (b := true) rfl rfl rfl rfl) (by kernel_rfl) (eval_out hEA (d := 5) (by kernel_rfl))
        · refine ob_val (want_is hEA (g := 29) (x := true) (b := true) rfl rfl rfl rfl) (by kernel_rfl) (fun ph w' hp hpm hw => ?_)
          have e51 : Fr.tmps[51]? = some (.pointer (some ⟨ga, 0, none⟩)) := hEA.dst 30 _ 51 rfl rfl; simp [execOp, e51, go_sem]
        · refine ob_val (want_is hEA (g := 29) (x := true) (b := true) rfl rfl rfl rfl) (by kernel_rfl) (fun ph w' hp hpm hw => ?_)
          have e52 : Fr.tmps[52]? = some (.pointer (some ⟨ga, 0, none⟩)) := hEA.dst 31 _ 52 rfl rfl; simp [execOp, e52, go_sem]
        · refine ob_val (want_is hEA (g := 29) (x := true) (b := true) rfl rfl rfl rfl) (by kernel_rfl) (fun ph w' hp hpm hw => ?_)
          have hc0 := (hw.cell (p := ⟨ga, 1, none⟩) la.lt).trans bA
          have e53 : Fr.tmps[53]? = some (.pointer (some ⟨ga, 1, none⟩)) := hEA.dst 32 _ 53 rfl rfl; simp [execOp, e53, hc0, go_sem]
        · refine ob_val (want_is hEA (g := 29) (x := true) (b := true) rfl rfl rfl rfl) (by kernel_rfl) (fun ph w' hp hpm hw => ?_)
          have e54 : Fr.tmps[54]? = some (.bool false) := hEA.dst 33 _ 54 rfl rfl; simp [execOp, e54, go_sem]
        · exact ob_move _ rfl (want_is hEA (g := 29) (x := true) (b := true) rfl rfl rfl rfl) (by kernel_rfl) (eval_dst hEA (j := 34) rfl rfl)
        · exact ob_skip (want_is hEA (g := 35) (x := true) (b := false) rfl rfl rfl rfl) (by kernel_rfl) rfl
        · exact ob_skip (want_is hEA (g := 35) (x := true) (b := false) rfl rfl rfl rfl) (by kernel_rfl) rfl
        · exact ob_skip (want_is hEA (g := 35) (x := true) (b := false) rfl rfl rfl rfl) (by kernel_rfl) rfl
        · refine ob_val (want_is hEA (g := 29) (x := true) (b := true) rfl rfl rfl rfl) (by kernel_rfl) (fun ph w' hp hpm hw => ?_)
          have e56 : Fr.tmps[56]? = some (.bool true) := hEA.dst 35 _ 56 rfl rfl; have e59 : Fr.tmps[59]? = some (undef) := hEA.dst 38 _ 59 rfl rfl; simp [execOp, e56, e59, go_sem]
        · refine ob_val (want_none rfl) (by kernel_rfl) (fun ph w' hp hpm hw => ?_)
          have e50 : Fr.tmps[50]? = some (.bool true) := hEA.dst 29 _ 50 rfl rfl; have e60 : Fr.tmps[60]? = some (.bool true) := hEA.dst 39 _ 60 rfl rfl; simp [execOp, e50, e60, go_sem]
        · exact ob_move _ rfl (want_none rfl) (by kernel_rfl) (eval_dst hEA (j := 40) rfl rfl)
        · exact ob_move _ rfl (want_is hEA (g := 41) (x := true) (b := true) rfl rfl rfl rfl) (by kernel_rfl) (eval_out hEA (d := 6) (by kernel_rfl))
        · refine ob_val (want_is hEA (g := 41) (x := true) (b := true) rfl rfl rfl rfl) (by kernel_rfl) (fun ph w' hp hpm hw => ?_)
          have e63 : Fr.tmps[63]? = some (.pointer (some ⟨gb, 0, none⟩)) := hEA.dst 42 _ 63 rfl rfl; simp [execOp, e63, go_sem]
        · refine ob_val (want_is hEA (g := 41) (x := true) (b := true) rfl rfl rfl rfl) (by kernel_rfl) (fun ph w' hp hpm hw => ?_)
          have e64 : Fr.tmps[64]? = some (.pointer (some ⟨gb, 0, none⟩)) := hEA.dst 43 _ 64 rfl rfl; simp [execOp, e64, go_sem]
        · refine ob_val (want_is hEA (g := 41) (x := true) (b := true) rfl rfl rfl rfl) (by kernel_rfl) (fun ph w' hp hpm hw => ?_)
          have hc0 := (hw.cell (p := ⟨gb, 1, none⟩) lb.lt).trans bB
          have e65 : Fr.tmps[65]? = some (.pointer (some ⟨gb, 1, none⟩)) := hEA.dst 44 _ 65 rfl rfl; simp [execOp, e65, hc0, go_sem]
        · refine ob_val (want_is hEA (g := 41) (x := true) (b := true) rfl rfl rfl rfl) (by kernel_rfl) (fun ph w' hp hpm hw => ?_)
          have e66 : Fr.tmps[66]? = some (.bool false) := hEA.dst 45 _ 66 rfl rfl; simp [execOp, e66, go_sem]
        · exact ob_move _ rfl (want_is hEA (g := 41) (x := true) (b := true) rfl rfl rfl rfl) (by kernel_rfl) (eval_dst hEA (j := 46) rfl rfl)
        · exact ob_skip (want_is hEA (g := 47) (x := true) (b := false) rfl rfl rfl rfl) (by kernel_rfl) rfl
        · exact ob_skip (want_is hEA (g := 47) (x := true) (b := false) rfl rfl rfl rfl) (by kernel_rfl) rfl
        · exact ob_skip (want_is hEA (g := 47) (x := true) (b := false) rfl rfl rfl rfl) (by kernel_rfl) rfl
        · refine ob_val (want_is hEA (g := 41) (x := true) (b := true) rfl rfl rfl rfl) (by kernel_rfl) (fun ph w' hp hpm hw => ?_)
          have e68 : Fr.tmps[68]? = some (.bool true) := hEA.dst 47 _ 68 rfl rfl; have e71 : Fr.tmps[71]? = some (undef) := hEA.dst 50 _ 71 rfl rfl; simp [execOp, e68, e71, go_sem]
        · refine ob_val (want_none rfl) (by kernel_rfl) (fun ph w' hp hpm hw => ?_)
          have e62 : Fr.tmps[62]? = some (.bool true) := hEA.dst 41 _ 62 rfl rfl; have e72 : Fr.tmps[72]? = some (.bool true) := hEA.dst 51 _ 72 rfl rfl; simp [execOp, e62, e72, go_sem]
        · exact ob_move _ rfl (want_none rfl) (by kernel_rfl) (eval_dst hEA (j := 52) rfl rfl)
        · exact ob_move _ rfl (want_is hEA (g := 53) (x := true) (b := true) rfl rfl rfl rfl) (by kernel_rfl) (eval_out hEA (d := 5) (by kernel_rfl))
        · refine ob_val (want_is hEA (g := 53) (x := true) (b := true) rfl rfl rfl rfl) (by kernel_rfl) (fun ph w' hp hpm hw => ?_)
          have e75 : Fr.tmps[75]? = some (.pointer (some ⟨ga, 0, none⟩)) := hEA.dst 54 _ 75 rfl rfl; simp [execOp, e75, go_sem]
        · refine ob_val (want_is hEA (g := 53) (x := true) (b := true) rfl rfl rfl rfl) (by kernel_rfl) (fun ph w' hp hpm hw => ?_)
          have e76 : Fr.tmps[76]? = some (.pointer (some ⟨ga, 0, none⟩)) := hEA.dst 55 _ 76 rfl rfl; simp [execOp, e76, go_sem]
        · refine ob_val (want_is hEA (g := 53) (x := true) (b := true) rfl rfl rfl rfl) (by kernel_rfl) (fun ph w' hp hpm hw => ?_)
          have hc0 := (hw.cell (p := ⟨ga, 1, none⟩) la.lt).trans bA
          have e77 : Fr.tmps[77]? = some (.pointer (some ⟨ga, 1, none⟩)) := hEA.dst 56 _ 77 rfl rfl; simp [execOp, e77, hc0, go_sem]
        · exact ob_move _ rfl (want_is hEA (g := 53) (x := true) (b := true) rfl rfl rfl rfl) (by kernel_rfl) (eval_dst hEA (j := 57) rfl rfl)
        · refine ob_val (want_is hEA (g := 58) (x := false) (b := false) rfl rfl rfl rfl) (by kernel_rfl) (fun ph w' hp hpm hw => ?_)
          have hc0 := (hw.cell (p := ⟨W4.heap.size, 0, none⟩) bx.lt).trans (bx.c 0 _ rfl)
          have hc1 := (hw.cell (p := ⟨W4.heap.size, 1, none⟩) bx.lt).trans (bx.c 1 _ rfl)
          have e7 : Fr.tmps[7]? = some (.pointer (some ⟨W4.heap.size, 0, none⟩)) := at_out hEA (d := 7) (by kernel_rfl); simp [execOp, e7, hc0, hc1, go_sem]
        · refine ob_call (q := 4) (f := 11) (args := #[.agg #[.int .i64 x0, .int .i64 x1]]) (want_is hEA (g := 58) (x := false) (b := false) rfl rfl rfl rfl) (by kernel_rfl) (fun w' => by have e80 : Fr.tmps[80]? = some (.agg #[.int .i64 x0, .int .i64 x1]) := hEA.dst 59 _ 80 rfl rfl; simp [e80, go_sem]) ?_
          intro w' hw
          refine (Calls.mono (R := fun E W' => E = .returned (.bool true) ∧ Below w'.heap.size w' W') (by have := mright_any x0 x1 w'; rwa [hx] at this) ?_)
          rintro e w2 ⟨rfl, hb⟩
          exact ⟨rfl, hw.trans (hb.mono hw.size)⟩
        · refine ob_val (want_is hEA (g := 53) (x := true) (b := true) rfl rfl rfl rfl) (by kernel_rfl) (fun ph w' hp hpm hw => ?_)
          have e79 : Fr.tmps[79]? = some (.bool false) := hEA.dst 58 _ 79 rfl rfl; have e81 : Fr.tmps[81]? = some (.bool true) := hEA.dst 60 _ 81 rfl rfl; simp [execOp, e79, e81, go_sem]
        · refine ob_val (want_none rfl) (by kernel_rfl) (fun ph w' hp hpm hw => ?_)
          have e74 : Fr.tmps[74]? = some (.bool true) := hEA.dst 53 _ 74 rfl rfl; have e82 : Fr.tmps[82]? = some (.bool true) := hEA.dst 61 _ 82 rfl rfl; simp [execOp, e74, e82, go_sem]
        · exact ob_move _ rfl (want_none rfl) (by kernel_rfl) (eval_dst hEA (j := 62) rfl rfl)
        · exact ob_move _ rfl (want_is hEA (g := 63) (x := true) (b := true) rfl rfl rfl rfl) (by kernel_rfl) (eval_out hEA (d := 6) (by kernel_rfl))
        · refine ob_val (want_is hEA (g := 63) (x := true) (b := true) rfl rfl rfl rfl) (by kernel_rfl) (fun ph w' hp hpm hw => ?_)
          have e85 : Fr.tmps[85]? = some (.pointer (some ⟨gb, 0, none⟩)) := hEA.dst 64 _ 85 rfl rfl; simp [execOp, e85, go_sem]
        · refine ob_val (want_is hEA (g := 63) (x := true) (b := true) rfl rfl rfl rfl) (by kernel_rfl) (fun ph w' hp hpm hw => ?_)
          have e86 : Fr.tmps[86]? = some (.pointer (some ⟨gb, 0, none⟩)) := hEA.dst 65 _ 86 rfl rfl; simp [execOp, e86, go_sem]
        · refine ob_val (want_is hEA (g := 63) (x := true) (b := true) rfl rfl rfl rfl) (by kernel_rfl) (fun ph w' hp hpm hw => ?_)
          have hc0 := (hw.cell (p := ⟨gb, 1, none⟩) lb.lt).trans bB
          have e87 : Fr.tmps[87]? = some (.pointer (some ⟨gb, 1, none⟩)) := hEA.dst 66 _ 87 rfl rfl; simp [execOp, e87, hc0, go_sem]
        · exact ob_move _ rfl (want_is hEA (g := 63) (x := true) (b := true) rfl rfl rfl rfl) (by kernel_rfl) (eval_dst hEA (j := 67) rfl rfl)
        · refine ob_val (want_is hEA (g := 68) (x := false) (b := false) rfl rfl rfl rfl) (by kernel_rfl) (fun ph w' hp hpm hw => ?_)
          have hc0 := (hw.cell (p := ⟨W4.heap.size + 1, 0, none⟩) bY.lt).trans (bY.c 0 _ rfl)
          have hc1 := (hw.cell (p := ⟨W4.heap.size + 1, 1, none⟩) bY.lt).trans (bY.c 1 _ rfl)
          have hc2 := (hw.cell (p := ⟨W4.heap.size + 1, 2, none⟩) bY.lt).trans (bY.c 2 _ rfl)
          have e8 : Fr.tmps[8]? = some (.pointer (some ⟨W4.heap.size + 1, 0, none⟩)) := at_out hEA (d := 8) (by kernel_rfl); simp [execOp, e8, hc0, hc1, hc2, go_sem]
        · refine ob_call (q := 5) (f := 15) (args := #[.agg #[.int .i64 c, .int .i64 d, .int .i64 u]]) (want_is hEA (g := 68) (x := false) (b := false) rfl rfl rfl rfl) (by kernel_rfl) (fun w' => by have e90 : Fr.tmps[90]? = some (.agg #[.int .i64 c, .int .i64 d, .int .i64 u]) := hEA.dst 69 _ 90 rfl rfl; simp [e90, go_sem]) ?_
          intro w' hw
          refine (Calls.mono (R := fun E W' => E = .returned (.bool true) ∧ Below w'.heap.size w' W') (by have := id_any c d u w'; rwa [hv] at this) ?_)
          rintro e w2 ⟨rfl, hb⟩
          exact ⟨rfl, hw.trans (hb.mono hw.size)⟩
        · refine ob_val (want_is hEA (g := 63) (x := true) (b := true) rfl rfl rfl rfl) (by kernel_rfl) (fun ph w' hp hpm hw => ?_)
          have e89 : Fr.tmps[89]? = some (.bool false) := hEA.dst 68 _ 89 rfl rfl; have e91 : Fr.tmps[91]? = some (.bool true) := hEA.dst 70 _ 91 rfl rfl; simp [execOp, e89, e91, go_sem]
        · refine ob_val (want_none rfl) (by kernel_rfl) (fun ph w' hp hpm hw => ?_)
          have e84 : Fr.tmps[84]? = some (.bool true) := hEA.dst 63 _ 84 rfl rfl; have e92 : Fr.tmps[92]? = some (.bool true) := hEA.dst 71 _ 92 rfl rfl; simp [execOp, e84, e92, go_sem]
        · refine ob_val (want_none rfl) (by kernel_rfl) (fun ph w' hp hpm hw => ?_)
          have e93 : Fr.tmps[93]? = some (.bool true) := hEA.dst 72 _ 93 rfl rfl; simp [execOp, e93, go_sem]
      · intro w' hw
        simp only [laid, Act.put, List.setIfInBounds_toArray, List.set_cons_succ, List.set_cons_zero, List.getD_cons_succ, List.getD_cons_zero, Nat.zero_add, Nat.reduceAdd]
        go_wp2_with fail
        go_ret
        exact ⟨rfl, B5.trans (hw.mono B5.size)⟩
    ·
      have bA : W5.cell? ⟨ga, 1, none⟩ = some (.bool false) := la.bad
      have bB : W5.cell? ⟨gb, 1, none⟩ = some (.bool true) := lb.bad
      refine wp_region_line (fun i => ([.bool true, .bool true, .agg #[.int .i64 a, .int .i64 b], .bool false, .bool true, .bool true, undef, undef, undef, undef, undef, undef, undef, .bool true, .bool true, .bool true, .agg #[.int .i64 c, .int .i64 d, .int .i64 u], .bool false, .bool true, .bool true, undef, undef, undef, undef, undef, undef, undef, .bool true, .bool true, .bool true, .pointer (some ⟨ga, 0, none⟩), .pointer (some ⟨ga, 0, none⟩), .pointer (some ⟨ga, 1, none⟩), .bool false, .bool true, .bool true, undef, undef, undef, .bool true, .bool true, .bool true, .pointer (some ⟨gb, 0, none⟩), .pointer (some ⟨gb, 0, none⟩), .pointer (some ⟨gb, 1, none⟩), .bool true, .bool false, .bool false, .agg #[.int .i64 0, .int .i64 0, .int .i64 0], .agg #[.int .i64 0, .int .i64 0, .int .i64 0], .bool true, .bool true, .bool true, .bool true, .pointer (some ⟨ga, 0, none⟩), .pointer (some ⟨ga, 0, none⟩), .pointer (some ⟨ga, 1, none⟩), .bool false, .bool false, .agg #[.int .i64 x0, .int .i64 x1], .bool true, .bool true, .bool true, .bool true, .pointer (some ⟨gb, 0, none⟩), .pointer (some ⟨gb, 0, none⟩), .pointer (some ⟨gb, 1, none⟩), .bool true, .bool true, undef, undef, .bool true, .bool true, .bool true] : List Value).getD i undef) [0, 3, 17, 60] [0, 1, 1, 1, 2, 2, 2, 2, 2, 2, 2, 2, 2, 2, 2, 2, 2, 2, 3, 3, 3, 3, 3, 3, 3, 3, 3, 3, 3, 3, 3, 3, 3, 3, 3, 3, 3, 3, 3, 3, 3, 3, 3, 3, 3, 3, 3, 3, 3, 3, 3, 3, 3, 3, 3, 3, 3, 3, 3, 3, 3, 4, 4, 4, 4, 4, 4, 4, 4, 4, 4, 4, 4, 4] (fun _ w' => Below W5.heap.size W5 w') (by kernel_rfl) (⟨rfl, rfl, rfl, Nat.le_refl _, fun _ _ => rfl⟩) ?_ ?_
      · refine Obs_of_endsL (by kernel_rfl) ?_
        intro Fr hEA
        refine ⟨?_, ?_, ?_, ?_, ?_, ?_, ?_, ?_, ?_, ?_, ?_, ?_, ?_, ?_, ?_, ?_, ?_, ?_, ?_, ?_, ?_, ?_, ?_, ?_, ?_, ?_, ?_, ?_, ?_, ?_, ?_, ?_, ?_, ?_, ?_, ?_, ?_, ?_, ?_, ?_, ?_, ?_, ?_, ?_, ?_, ?_, ?_, ?_, ?_, ?_, ?_, ?_, ?_, ?_, ?_, ?_, ?_, ?_, ?_, ?_, ?_, ?_, ?_, ?_, ?_, ?_, ?_, ?_, ?_, ?_, ?_, ?_, ?_, ?_, trivial⟩
        · refine ob_call (q := 0) (f := 8) (args := #[]) (want_none rfl) (by kernel_rfl) (fun w' => by simp [go_sem]) ?_
          intro w' hw
          refine (Calls.mono (R := fun E W' => E = .returned (.bool true) ∧ Below w'.heap.size w' W') (awake8_any w') ?_)
          rintro e w2 ⟨rfl, hb⟩
          exact ⟨rfl, hw.trans (hb.mono hw.size)⟩
        · exact ob_move _ rfl (want_none rfl) (by kernel_rfl) (eval_dst hEA (j := 0) rfl rfl)
        · refine ob_val (want_is hEA (g := 1) (x := true) (b := true) rfl rfl rfl rfl) (by kernel_rfl) (fun ph w' hp hpm hw => ?_)
          have hc0 := (hw.cell (p := ⟨w.heap.size, 0, none⟩) bm.lt).trans (bm.c 0 _ rfl)
          have hc1 := (hw.cell (p := ⟨w.heap.size, 1, none⟩) bm.lt).trans (bm.c 1 _ rfl)
          have e2 : Fr.tmps[2]? = some (.pointer (some ⟨w.heap.size, 0, none⟩)) := at_out hEA (d := 2) (by kernel_rfl); simp [execOp, e2, hc0, hc1, go_sem]
        · refine ob_call (q := 1) (f := 11) (args := #[.agg #[.int .i64 a, .int .i64 b]]) (want_is hEA (g := 1) (x := true) (b := true) rfl rfl rfl rfl) (by kernel_rfl) (fun w' => by have e23 : Fr.tmps[23]? = some (.agg #[.int .i64 a, .int .i64 b]) := hEA.dst 2 _ 23 rfl rfl; simp [e23, go_sem]) ?_
          intro w' hw
          refine (Calls.mono (R := fun E W' => E = .returned (.bool false) ∧ Below w'.heap.size w' W') (by have := mright_any a b w'; rwa [hk] at this) ?_)
          rintro e w2 ⟨rfl, hb⟩
          exact ⟨rfl, hw.trans (hb.mono hw.size)⟩
        · refine ob_val (want_is hEA (g := 1) (x := true) (b := true) rfl rfl rfl rfl) (by kernel_rfl) (fun ph w' hp hpm hw => ?_)
          have e24 : Fr.tmps[24]? = some (.bool false) := hEA.dst 3 _ 24 rfl rfl; simp [execOp, e24, go_sem]
        · exact ob_move _ rfl (want_is hEA (g := 1) (x := true) (b := true) rfl rfl rfl rfl) (by kernel_rfl) (eval_dst hEA (j := 4) rfl rfl)
        · exact ob_skip (want_is hEA (g := 5) (x := true) (b := false) rfl rfl rfl rfl) (by kernel_rfl) rfl
        · exact ob_skip (want_is hEA (g := 5) (x := true) (b := false) rfl rfl rfl rfl) (by kernel_rfl) rfl
        · exact ob_skip (want_is hEA (g := 5) (x := true) (b := false) rfl rfl rfl rfl) (by kernel_rfl) rfl
        · exact ob_skip (want_is hEA (g := 5) (x := true) (b := false) rfl rfl rfl rfl) (by kernel_rfl) rfl
        · exact ob_skip (want_undef hEA (g := 9) rfl rfl rfl rfl) (by kernel_rfl) rfl
        · exact ob_skip (want_undef hEA (g := 9) rfl rfl rfl rfl) (by kernel_rfl) rfl
        · exact ob_skip (want_is hEA (g := 5) (x := true) (b := false) rfl rfl rfl rfl) (by kernel_rfl) rfl
        · refine ob_val (want_is hEA (g := 1) (x := true) (b := true) rfl rfl rfl rfl) (by kernel_rfl) (fun ph w' hp hpm hw => ?_)
          have e26 : Fr.tmps[26]? = some (.bool true) := hEA.dst 5 _ 26 rfl rfl; have e33 : Fr.tmps[33]? = some (undef) := hEA.dst 12 _ 33 rfl rfl; simp [execOp, e26, e33, go_sem]
        · refine ob_val (want_none rfl) (by kernel_rfl) (fun ph w' hp hpm hw => ?_)
          have e22 : Fr.tmps[22]? = some (.bool true) := hEA.dst 1 _ 22 rfl rfl; have e34 : Fr.tmps[34]? = some (.bool true) := hEA.dst 13 _ 34 rfl rfl; simp [execOp, e22, e34, go_sem]
        · exact ob_move _ rfl (want_none rfl) (by kernel_rfl) (eval_dst hEA (j := 14) rfl rfl)
        · refine ob_val (want_is hEA (g := 15) (x := true) (b := true) rfl rfl rfl rfl) (by kernel_rfl) (fun ph w' hp hpm hw => ?_)
          have hc0 := (hw.cell (p := ⟨w.heap.size + 1, 0, none⟩) bv.lt).trans (bv.c 0 _ rfl)
          have hc1 := (hw.cell (p := ⟨w.heap.size + 1, 1, none⟩) bv.lt).trans (bv.c 1 _ rfl)
          have hc2 := (hw.cell (p := ⟨w.heap.size + 1, 2, none⟩) bv.lt).trans (bv.c 2 _ rfl)
          have e3 : Fr.tmps[3]? = some (.pointer (some ⟨w.heap.size + 1, 0, none⟩)) := at_out hEA (d := 3) (by kernel_rfl); simp [execOp, e3, hc0, hc1, hc2, go_sem]
        · refine ob_call (q := 2) (f := 15) (args := #[.agg #[.int .i64 c, .int .i64 d, .int .i64 u]]) (want_is hEA (g := 15) (x := true) (b := true) rfl rfl rfl rfl) (by kernel_rfl) (fun w' => by have e37 : Fr.tmps[37]? = some (.agg #[.int .i64 c, .int .i64 d, .int .i64 u]) := hEA.dst 16 _ 37 rfl rfl; simp [e37, go_sem]) ?_
          intro w' hw
          refine (Calls.mono (R := fun E W' => E = .returned (.bool false) ∧ Below w'.heap.size w' W') (by have := id_any c d u w'; rwa [hv] at this) ?_)
          rintro e w2 ⟨rfl, hb⟩
          exact ⟨rfl, hw.trans (hb.mono hw.size)⟩
        · refine ob_val (want_is hEA (g := 15) (x := true) (b := true) rfl rfl rfl rfl) (by kernel_rfl) (fun ph w' hp hpm hw => ?_)
          have e38 : Fr.tmps[38]? = some (.bool false) := hEA.dst 17 _ 38 rfl rfl; simp [execOp, e38, go_sem]
        · exact ob_move _ rfl (want_is hEA (g := 15) (x := true) (b := true) rfl rfl rfl rfl) (by kernel_rfl) (eval_dst hEA (j := 18) rfl rfl)
        · exact ob_skip (want_is hEA (g := 19) (x := true) (b := false) rfl rfl rfl rfl) (by kernel_rfl) rfl
        · exact ob_skip (want_is hEA (g := 19) (x := true) (b := false) rfl rfl rfl rfl) (by kernel_rfl) rfl
        · exact ob_skip (want_is hEA (g := 19) (x := true) (b := false) rfl rfl rfl rfl) (by kernel_rfl) rfl
        · exact ob_skip (want_is hEA (g := 19) (x := true) (b := false) rfl rfl rfl rfl) (by kernel_rfl) rfl
        · exact ob_skip (want_undef hEA (g := 23) rfl rfl rfl rfl) (by kernel_rfl) rfl
        · exact ob_skip (want_undef hEA (g := 23) rfl rfl rfl rfl) (by kernel_rfl) rfl
        · exact ob_skip (want_is hEA (g := 19) (x := true) (b := false) rfl rfl rfl rfl) (by kernel_rfl) rfl
        · refine ob_val (want_is hEA (g := 15) (x := true) (b := true) rfl rfl rfl rfl) (by kernel_rfl) (fun ph w' hp hpm hw => ?_)
          have e40 : Fr.tmps[40]? = some (.bool true) := hEA.dst 19 _ 40 rfl rfl; have e47 : Fr.tmps[47]? = some (undef) := hEA.dst 26 _ 47 rfl rfl; simp [execOp, e40, e47, go_sem]
        · refine ob_val (want_none rfl) (by kernel_rfl) (fun ph w' hp hpm hw => ?_)
          have e36 : Fr.tmps[36]? = some (.bool true) := hEA.dst 15 _ 36 rfl rfl; have e48 : Fr.tmps[48]? = some (.bool true) := hEA.dst 27 _ 48 rfl rfl; simp [execOp, e36, e48, go_sem]
        · exact ob_move _ rfl (want_none rfl) (by kernel_rfl) (eval_dst hEA (j := 28) rfl rfl)
        · exact ob_move _ rfl (want_is hEA (g := 29) (x := true) (b := true) rfl rfl rfl rfl) (by kernel_rfl) (eval_out hEA (d := 5) (by kernel_rfl))
        · refine ob_val (want_is hEA (g := 29) (x := true) (b := true) rfl rfl rfl rfl) (by kernel_rfl) (fun ph w' hp hpm hw => ?_)
          have e51 : Fr.tmps[51]? = some (.pointer (some ⟨ga, 0, none⟩)) := hEA.dst 30 _ 51 rfl rfl; simp [execOp, e51, go_sem]
        · refine ob_val (want_is hEA (g := 29) (x := true) (b := true) rfl rfl rfl rfl) (by kernel_rfl) (fun ph w' hp hpm hw => ?_)
          have e52 : Fr.tmps[52]? = some (.pointer (some ⟨ga, 0, none⟩)) := hEA.dst 31 _ 52 rfl rfl; simp [execOp, e52, go_sem]
        · refine ob_val (want_is hEA (g := 29) (x := true) (b := true) rfl rfl rfl rfl) (by kernel_rfl) (fun ph w' hp hpm hw => ?_)
          have hc0 := (hw.cell (p := ⟨ga, 1, none⟩) la.lt).trans bA
          have e53 : Fr.tmps[53]? = some (.pointer (some ⟨ga, 1, none⟩)) := hEA.dst 32 _ 53 rfl rfl; simp [execOp, e53, hc0, go_sem]
        · refine ob_val (want_is hEA (g := 29) (x := true) (b := true) rfl rfl rfl rfl) (by kernel_rfl) (fun ph w' hp hpm hw => ?_)
          have e54 : Fr.tmps[54]? = some (.bool false) := hEA.dst 33 _ 54 rfl rfl; simp [execOp, e54, go_sem]
        · exact ob_move _ rfl (want_is hEA (g := 29) (x := true) (b := true) rfl rfl rfl rfl) (by kernel_rfl) (eval_dst hEA (j := 34) rfl rfl)
        · exact ob_skip (want_is hEA (g := 35) (x := true) (b := false) rfl rfl rfl rfl) (by kernel_rfl) rfl
        · exact ob_skip (want_is hEA (g := 35) (x := true) (b := false) rfl rfl rfl rfl) (by kernel_rfl) rfl
        · exact ob_skip (want_is hEA (g := 35) (x := true) (b := false) rfl rfl rfl rfl) (by kernel_rfl) rfl
        · refine ob_val (want_is hEA (g := 29) (x := true) (b := true) rfl rfl rfl rfl) (by kernel_rfl) (fun ph w' hp hpm hw => ?_)
          have e56 : Fr.tmps[56]? = some (.bool true) := hEA.dst 35 _ 56 rfl rfl; have e59 : Fr.tmps[59]? = some (undef) := hEA.dst 38 _ 59 rfl rfl; simp [execOp, e56, e59, go_sem]
        · refine ob_val (want_none rfl) (by kernel_rfl) (fun ph w' hp hpm hw => ?_)
          have e50 : Fr.tmps[50]? = some (.bool true) := hEA.dst 29 _ 50 rfl rfl; have e60 : Fr.tmps[60]? = some (.bool true) := hEA.dst 39 _ 60 rfl rfl; simp [execOp, e50, e60, go_sem]
        · exact ob_move _ rfl (want_none rfl) (by kernel_rfl) (eval_dst hEA (j := 40) rfl rfl)
        · exact ob_move _ rfl (want_is hEA (g := 41) (x := true) (b := true) rfl rfl rfl rfl) (by kernel_rfl) (eval_out hEA (d := 6) (by kernel_rfl))
        · refine ob_val (want_is hEA (g := 41) (x := true) (b := true) rfl rfl rfl rfl) (by kernel_rfl) (fun ph w' hp hpm hw => ?_)
          have e63 : Fr.tmps[63]? = some (.pointer (some ⟨gb, 0, none⟩)) := hEA.dst 42 _ 63 rfl rfl; simp [execOp, e63, go_sem]
        · refine ob_val (want_is hEA (g := 41) (x := true) (b := true) rfl rfl rfl rfl) (by kernel_rfl) (fun ph w' hp hpm hw => ?_)
          have e64 : Fr.tmps[64]? = some (.pointer (some ⟨gb, 0, none⟩)) := hEA.dst 43 _ 64 rfl rfl; simp [execOp, e64, go_sem]
        · refine ob_val (want_is hEA (g := 41) (x := true) (b := true) rfl rfl rfl rfl) (by kernel_rfl) (fun ph w' hp hpm hw => ?_)
          have hc0 := (hw.cell (p := ⟨gb, 1, none⟩) lb.lt).trans bB
          have e65 : Fr.tmps[65]? = some (.pointer (some ⟨gb, 1, none⟩)) := hEA.dst 44 _ 65 rfl rfl; simp [execOp, e65, hc0, go_sem]
        · refine ob_val (want_is hEA (g := 41) (x := true) (b := true) rfl rfl rfl rfl) (by kernel_rfl) (fun ph w' hp hpm hw => ?_)
          have e66 : Fr.tmps[66]? = some (.bool true) := hEA.dst 45 _ 66 rfl rfl; simp [execOp, e66, go_sem]
        · exact ob_move _ rfl (want_is hEA (g := 41) (x := true) (b := true) rfl rfl rfl rfl) (by kernel_rfl) (eval_dst hEA (j := 46) rfl rfl)
        · refine ob_val (want_is hEA (g := 47) (x := false) (b := false) rfl rfl rfl rfl) (by kernel_rfl) (fun ph w' hp hpm hw => ?_)
          have hc0 := (hw.cell (p := ⟨W4.heap.size + 1, 0, none⟩) bY.lt).trans (bY.c 0 _ rfl)
          have hc1 := (hw.cell (p := ⟨W4.heap.size + 1, 1, none⟩) bY.lt).trans (bY.c 1 _ rfl)
          have hc2 := (hw.cell (p := ⟨W4.heap.size + 1, 2, none⟩) bY.lt).trans (bY.c 2 _ rfl)
          have e8 : Fr.tmps[8]? = some (.pointer (some ⟨W4.heap.size + 1, 0, none⟩)) := at_out hEA (d := 8) (by kernel_rfl); simp [execOp, e8, hc0, hc1, hc2, go_sem]
        · refine ob_val (want_is hEA (g := 47) (x := false) (b := false) rfl rfl rfl rfl) (by kernel_rfl) (fun ph w' hp hpm hw => ?_)
          simp [execOp, go_sem]
        · refine ob_val (want_is hEA (g := 47) (x := false) (b := false) rfl rfl rfl rfl) (by kernel_rfl) (fun ph w' hp hpm hw => ?_)
          have e69 : Fr.tmps[69]? = some (.agg #[.int .i64 0, .int .i64 0, .int .i64 0]) := hEA.dst 48 _ 69 rfl rfl; have e70 : Fr.tmps[70]? = some (.agg #[.int .i64 0, .int .i64 0, .int .i64 0]) := hEA.dst 49 _ 70 rfl rfl; simp [execOp, e69, e70, go_sem]
        · refine ob_val (want_is hEA (g := 41) (x := true) (b := true) rfl rfl rfl rfl) (by kernel_rfl) (fun ph w' hp hpm hw => ?_)
          have e68 : Fr.tmps[68]? = some (.bool false) := hEA.dst 47 _ 68 rfl rfl; have e71 : Fr.tmps[71]? = some (.bool true) := hEA.dst 50 _ 71 rfl rfl; simp [execOp, e68, e71, go_sem]
        · refine ob_val (want_none rfl) (by kernel_rfl) (fun ph w' hp hpm hw => ?_)
          have e62 : Fr.tmps[62]? = some (.bool true) := hEA.dst 41 _ 62 rfl rfl; have e72 : Fr.tmps[72]? = some (.bool true) := hEA.dst 51 _ 72 rfl rfl; simp [execOp, e62, e72, go_sem]
        · exact ob_move _ rfl (want_none rfl) (by kernel_rfl) (eval_dst hEA (j := 52) rfl rfl)
        · exact ob_move _ rfl (want_is hEA (g := 53) (x := true) (b := true) rfl rfl rfl rfl) (by kernel_rfl) (eval_out hEA (d := 5) (by kernel_rfl))
        · refine ob_val (want_is hEA (g := 53) (x := true) (b := true) rfl rfl rfl rfl) (by kernel_rfl) (fun ph w' hp hpm hw => ?_)
          have e75 : Fr.tmps[75]? = some (.pointer (some ⟨ga, 0, none⟩)) := hEA.dst 54 _ 75 rfl rfl; simp [execOp, e75, go_sem]
        · refine ob_val (want_is hEA (g := 53) (x := true) (b := true) rfl rfl rfl rfl) (by kernel_rfl) (fun ph w' hp hpm hw => ?_)
          have e76 : Fr.tmps[76]? = some (.pointer (some ⟨ga, 0, none⟩)) := hEA.dst 55 _ 76 rfl rfl; simp [execOp, e76, go_sem]
        · refine ob_val (want_is hEA (g := 53) (x := true) (b := true) rfl rfl rfl rfl) (by kernel_rfl) (fun ph w' hp hpm hw => ?_)
          have hc0 := (hw.cell (p := ⟨ga, 1, none⟩) la.lt).trans bA
          have e77 : Fr.tmps[77]? = some (.pointer (some ⟨ga, 1, none⟩)) := hEA.dst 56 _ 77 rfl rfl; simp [execOp, e77, hc0, go_sem]
        · exact ob_move _ rfl (want_is hEA (g := 53) (x := true) (b := true) rfl rfl rfl rfl) (by kernel_rfl) (eval_dst hEA (j := 57) rfl rfl)
        · refine ob_val (want_is hEA (g := 58) (x := false) (b := false) rfl rfl rfl rfl) (by kernel_rfl) (fun ph w' hp hpm hw => ?_)
          have hc0 := (hw.cell (p := ⟨W4.heap.size, 0, none⟩) bx.lt).trans (bx.c 0 _ rfl)
          have hc1 := (hw.cell (p := ⟨W4.heap.size, 1, none⟩) bx.lt).trans (bx.c 1 _ rfl)
          have e7 : Fr.tmps[7]? = some (.pointer (some ⟨W4.heap.size, 0, none⟩)) := at_out hEA (d := 7) (by kernel_rfl); simp [execOp, e7, hc0, hc1, go_sem]
        · refine ob_call (q := 3) (f := 11) (args := #[.agg #[.int .i64 x0, .int .i64 x1]]) (want_is hEA (g := 58) (x := false) (b := false) rfl rfl rfl rfl) (by kernel_rfl) (fun w' => by have e80 : Fr.tmps[80]? = some (.agg #[.int .i64 x0, .int .i64 x1]) := hEA.dst 59 _ 80 rfl rfl; simp [e80, go_sem]) ?_
          intro w' hw
          refine (Calls.mono (R := fun E W' => E = .returned (.bool true) ∧ Below w'.heap.size w' W') (by have := mright_any x0 x1 w'; rwa [hx] at this) ?_)
          rintro e w2 ⟨rfl, hb⟩
          exact ⟨rfl, hw.trans (hb.mono hw.size)⟩
        · refine ob_val (want_is hEA (g := 53) (x := true) (b := true) rfl rfl rfl rfl) (by kernel_rfl) (fun ph w' hp hpm hw => ?_)
          have e79 : Fr.tmps[79]? = some (.bool false) := hEA.dst 58 _ 79 rfl rfl; have e81 : Fr.tmps[81]? = some (.bool true) := hEA.dst 60 _ 81 rfl rfl; simp [execOp, e79, e81, go_sem]
        · refine ob_val (want_none rfl) (by kernel_rfl) (fun ph w' hp hpm hw => ?_)
          have e74 : Fr.tmps[74]? = some (.bool true) := hEA.dst 53 _ 74 rfl rfl; have e82 : Fr.tmps[82]? = some (.bool true) := hEA.dst 61 _ 82 rfl rfl; simp [execOp, e74, e82, go_sem]
        · exact ob_move _ rfl (want_none rfl) (by kernel_rfl) (eval_dst hEA (j := 62) rfl rfl)
        · exact ob_move _ rfl (want_is hEA (g := 63) (x := true) (b := true) rfl rfl rfl rfl) (by kernel_rfl) (eval_out hEA (d := 6) (by kernel_rfl))
        · refine ob_val (want_is hEA (g := 63) (x := true) (b := true) rfl rfl rfl rfl) (by kernel_rfl) (fun ph w' hp hpm hw => ?_)
          have e85 : Fr.tmps[85]? = some (.pointer (some ⟨gb, 0, none⟩)) := hEA.dst 64 _ 85 rfl rfl; simp [execOp, e85, go_sem]
        · refine ob_val (want_is hEA (g := 63) (x := true) (b := true) rfl rfl rfl rfl) (by kernel_rfl) (fun ph w' hp hpm hw => ?_)
          have e86 : Fr.tmps[86]? = some (.pointer (some ⟨gb, 0, none⟩)) := hEA.dst 65 _ 86 rfl rfl; simp [execOp, e86, go_sem]
        · refine ob_val (want_is hEA (g := 63) (x := true) (b := true) rfl rfl rfl rfl) (by kernel_rfl) (fun ph w' hp hpm hw => ?_)
          have hc0 := (hw.cell (p := ⟨gb, 1, none⟩) lb.lt).trans bB
          have e87 : Fr.tmps[87]? = some (.pointer (some ⟨gb, 1, none⟩)) := hEA.dst 66 _ 87 rfl rfl; simp [execOp, e87, hc0, go_sem]
        · exact ob_move _ rfl (want_is hEA (g := 63) (x := true) (b := true) rfl rfl rfl rfl) (by kernel_rfl) (eval_dst hEA (j := 67) rfl rfl)
        · exact ob_skip (want_is hEA (g := 68) (x := true) (b := false) rfl rfl rfl rfl) (by kernel_rfl) rfl
        · exact ob_skip (want_is hEA (g := 68) (x := true) (b := false) rfl rfl rfl rfl) (by kernel_rfl) rfl
        · refine ob_val (want_is hEA (g := 63) (x := true) (b := true) rfl rfl rfl rfl) (by kernel_rfl) (fun ph w' hp hpm hw => ?_)
          have e89 : Fr.tmps[89]? = some (.bool true) := hEA.dst 68 _ 89 rfl rfl; have e91 : Fr.tmps[91]? = some (undef) := hEA.dst 70 _ 91 rfl rfl; simp [execOp, e89, e91, go_sem]
        · refine ob_val (want_none rfl) (by kernel_rfl) (fun ph w' hp hpm hw => ?_)
          have e84 : Fr.tmps[84]? = some (.bool true) := hEA.dst 63 _ 84 rfl rfl; have e92 : Fr.tmps[92]? = some (.bool true) := hEA.dst 71 _ 92 rfl rfl; simp [execOp, e84, e92, go_sem]
        · refine ob_val (want_none rfl) (by kernel_rfl) (fun ph w' hp hpm hw => ?_)
          have e93 : Fr.tmps[93]? = some (.bool true) := hEA.dst 72 _ 93 rfl rfl; simp [execOp, e93, go_sem]
      · intro w' hw
        simp only [laid, Act.put, List.setIfInBounds_toArray, List.set_cons_succ, List.set_cons_zero, List.getD_cons_succ, List.getD_cons_zero, Nat.zero_add, Nat.reduceAdd]
        go_wp2_with fail
        go_ret
        exact ⟨rfl, B5.trans (hw.mono B5.size)⟩
    ·
      have bA : W5.cell? ⟨ga, 1, none⟩ = some (.bool false) := la.bad
      have bB : W5.cell? ⟨gb, 1, none⟩ = some (.bool false) := lb.bad
      refine wp_region_line (fun i => ([.bool true, .bool true, .agg #[.int .i64 a, .int .i64 b], .bool false, .bool true, .bool true, undef, undef, undef, undef, undef, undef, undef, .bool true, .bool true, .bool true, .agg #[.int .i64 c, .int .i64 d, .int .i64 u], .bool false, .bool true, .bool true, undef, undef, undef, undef, undef, undef, undef, .bool true, .bool true, .bool true, .pointer (some ⟨ga, 0, none⟩), .pointer (some ⟨ga, 0, none⟩), .pointer (some ⟨ga, 1, none⟩), .bool false, .bool true, .bool true, undef, undef, undef, .bool true, .bool true, .bool true, .pointer (some ⟨gb, 0, none⟩), .pointer (some ⟨gb, 0, none⟩), .pointer (some ⟨gb, 1, none⟩), .bool false, .bool true, .bool true, undef, undef, undef, .bool true, .bool true, .bool true, .pointer (some ⟨ga, 0, none⟩), .pointer (some ⟨ga, 0, none⟩), .pointer (some ⟨ga, 1, none⟩), .bool false, .bool false, .agg #[.int .i64 x0, .int .i64 x1], .bool true, .bool true, .bool true, .bool true, .pointer (some ⟨gb, 0, none⟩), .pointer (some ⟨gb, 0, none⟩), .pointer (some ⟨gb, 1, none⟩), .bool false, .bool false, .agg #[.int .i64 y0, .int .i64 y1, .int .i64 y2], .bool true, .bool true, .bool true, .bool true] : List Value).getD i undef) [0, 3, 17, 60, 70] [0, 1, 1, 1, 2, 2, 2, 2, 2, 2, 2, 2, 2, 2, 2, 2, 2, 2, 3, 3, 3, 3, 3, 3, 3, 3, 3, 3, 3, 3, 3, 3, 3, 3, 3, 3, 3, 3, 3, 3, 3, 3, 3, 3, 3, 3, 3, 3, 3, 3, 3, 3, 3, 3, 3, 3, 3, 3, 3, 3, 3, 4, 4, 4, 4, 4, 4, 4, 4, 4, 4, 5, 5, 5] (fun _ w' => Below W5.heap.size W5 w') (by kernel_rfl) (⟨rfl, rfl, rfl, Nat.le_refl _, fun _ _ => rfl⟩) ?_ ?_
      · refine Obs_of_endsL (by kernel_rfl) ?_
        intro Fr hEA
        refine ⟨?_, ?_, ?_, ?_, ?_, ?_, ?_, ?_, ?_, ?_, ?_, ?_, ?_, ?_, ?_, ?_, ?_, ?_, ?_, ?_, ?_, ?_, ?_, ?_, ?_, ?_, ?_, ?_, ?_, ?_, ?_, ?_, ?_, ?_, ?_, ?_, ?_, ?_, ?_, ?_, ?_, ?_, ?_, ?_, ?_, ?_, ?_, ?_, ?_, ?_, ?_, ?_, ?_, ?_, ?_, ?_, ?_, ?_, ?_, ?_, ?_, ?_, ?_, ?_, ?_, ?_, ?_, ?_, ?_, ?_, ?_, ?_, ?_, ?_, trivial⟩
        · refine ob_call (q := 0) (f := 8) (args := #[]) (want_none rfl) (by kernel_rfl) (fun w' => by simp [go_sem]) ?_
          intro w' hw
          refine (Calls.mono (R := fun E W' => E = .returned (.bool true) ∧ Below w'.heap.size w' W') (awake8_any w') ?_)
          rintro e w2 ⟨rfl, hb⟩
          exact ⟨rfl, hw.trans (hb.mono hw.size)⟩
        · exact ob_move _ rfl (want_none rfl) (by kernel_rfl) (eval_dst hEA (j := 0) rfl rfl)
        · refine ob_val (want_is hEA (g := 1) (x := true) (b := true) rfl rfl rfl rfl) (by kernel_rfl) (fun ph w' hp hpm hw => ?_)
          have hc0 := (hw.cell (p := ⟨w.heap.size, 0, none⟩) bm.lt).trans (bm.c 0 _ rfl)
          have hc1 := (hw.cell (p := ⟨w.heap.size, 1, none⟩) bm.lt).trans (bm.c 1 _ rfl)
          have e2 : Fr.tmps[2]? = some (.pointer (some ⟨w.heap.size, 0, none⟩)) := at_out hEA (d := 2) (by kernel_rfl); simp [execOp, e2, hc0, hc1, go_sem]
        · refine ob_call (q := 1) (f := 11) (args := #[.agg #[.int .i64 a, .int .i64 b]]) (want_is hEA (g := 1) (x := true) (b := true) rfl rfl rfl rfl) (by kernel_rfl) (fun w' => by have e23 : Fr.tmps[23]? = some (.agg #[.int .i64 a, .int .i64 b]) := hEA.dst 2 _ 23 rfl rfl; simp [e23, go_sem]) ?_
          intro w' hw
          refine (Calls.mono (R := fun E W' => E = .returned (.bool false) ∧ Below w'.heap.size w' W') (by have := mright_any a b w'; rwa [hk] at this) ?_)
          rintro e w2 ⟨rfl, hb⟩
          exact ⟨rfl, hw.trans (hb.mono hw.size)⟩
        · refine ob_val (want_is hEA (g := 1) (x := true) (b := true) rfl rfl rfl rfl) (by kernel_rfl) (fun ph w' hp hpm hw => ?_)
          have e24 : Fr.tmps[24]? = some (.bool false) := hEA.dst 3 _ 24 rfl rfl; simp [execOp, e24, go_sem]
        · exact ob_move _ rfl (want_is hEA (g := 1) (x := true) (b := true) rfl rfl rfl rfl) (by kernel_rfl) (eval_dst hEA (j := 4) rfl rfl)
        · exact ob_skip (want_is hEA (g := 5) (x := true) (b := false) rfl rfl rfl rfl) (by kernel_rfl) rfl
        · exact ob_skip (want_is hEA (g := 5) (x := true) (b := false) rfl rfl rfl rfl) (by kernel_rfl) rfl
        · exact ob_skip (want_is hEA (g := 5) (x := true) (b := false) rfl rfl rfl rfl) (by kernel_rfl) rfl
        · exact ob_skip (want_is hEA (g := 5) (x := true) (b := false) rfl rfl rfl rfl) (by kernel_rfl) rfl
        · exact ob_skip (want_undef hEA (g := 9) rfl rfl rfl rfl) (by kernel_rfl) rfl
        · exact ob_skip (want_undef hEA (g := 9) rfl rfl rfl rfl) (by kernel_rfl) rfl
        · exact ob_skip (want_is hEA (g := 5) (x := true) (b := false) rfl rfl rfl rfl) (by kernel_rfl) rfl
        · refine ob_val (want_is hEA (g := 1) (x := true) (b := true) rfl rfl rfl rfl) (by kernel_rfl) (fun ph w' hp hpm hw => ?_)
          have e26 : Fr.tmps[26]? = some (.bool true) := hEA.dst 5 _ 26 rfl rfl; have e33 : Fr.tmps[33]? = some (undef) := hEA.dst 12 _ 33 rfl rfl; simp [execOp, e26, e33, go_sem]
        · refine ob_val (want_none rfl) (by kernel_rfl) (fun ph w' hp hpm hw => ?_)
          have e22 : Fr.tmps[22]? = some (.bool true) := hEA.dst 1 _ 22 rfl rfl; have e34 : Fr.tmps[34]? = some (.bool true) := hEA.dst 13 _ 34 rfl rfl; simp [execOp, e22, e34, go_sem]
        · exact ob_move _ rfl (want_none rfl) (by kernel_rfl) (eval_dst hEA (j := 14) rfl rfl)
        · refine ob_val (want_is hEA (g := 15) (x := true) (b := true) rfl rfl rfl rfl) (by kernel_rfl) (fun ph w' hp hpm hw => ?_)
          have hc0 := (hw.cell (p := ⟨w.heap.size + 1, 0, none⟩) bv.lt).trans (bv.c 0 _ rfl)
          have hc1 := (hw.cell (p := ⟨w.heap.size + 1, 1, none⟩) bv.lt).trans (bv.c 1 _ rfl)
          have hc2 := (hw.cell (p := ⟨w.heap.size + 1, 2, none⟩) bv.lt).trans (bv.c 2 _ rfl)
          have e3 : Fr.tmps[3]? = some (.pointer (some ⟨w.heap.size + 1, 0, none⟩)) := at_out hEA (d := 3) (by kernel_rfl); simp [execOp, e3, hc0, hc1, hc2, go_sem]
        · refine ob_call (q := 2) (f := 15) (args := #[.agg #[.int .i64 c, .int .i64 d, .int .i64 u]]) (want_is hEA (g := 15) (x := true) (b := true) rfl rfl rfl rfl) (by kernel_rfl) (fun w' => by have e37 : Fr.tmps[37]? = some (.agg #[.int .i64 c, .int .i64 d, .int .i64 u]) := hEA.dst 16 _ 37 rfl rfl; simp [e37, go_sem]) ?_
          intro w' hw
          refine (Calls.mono (R := fun E W' => E = .returned (.bool false) ∧ Below w'.heap.size w' W') (by have := id_any c d u w'; rwa [hv] at this) ?_)
          rintro e w2 ⟨rfl, hb⟩
          exact ⟨rfl, hw.trans (hb.mono hw.size)⟩
        · refine ob_val (want_is hEA (g := 15) (x := true) (b := true) rfl rfl rfl rfl) (by kernel_rfl) (fun ph w' hp hpm hw => ?_)
          have e38 : Fr.tmps[38]? = some (.bool false) := hEA.dst 17 _ 38 rfl rfl; simp [execOp, e38, go_sem]
        · exact ob_move _ rfl (want_is hEA (g := 15) (x := true) (b := true) rfl rfl rfl rfl) (by kernel_rfl) (eval_dst hEA (j := 18) rfl rfl)
        · exact ob_skip (want_is hEA (g := 19) (x := true) (b := false) rfl rfl rfl rfl) (by kernel_rfl) rfl
        · exact ob_skip (want_is hEA (g := 19) (x := true) (b := false) rfl rfl rfl rfl) (by kernel_rfl) rfl
        · exact ob_skip (want_is hEA (g := 19) (x := true) (b := false) rfl rfl rfl rfl) (by kernel_rfl) rfl
        · exact ob_skip (want_is hEA (g := 19) (x := true) (b := false) rfl rfl rfl rfl) (by kernel_rfl) rfl
        · exact ob_skip (want_undef hEA (g := 23) rfl rfl rfl rfl) (by kernel_rfl) rfl
        · exact ob_skip (want_undef hEA (g := 23) rfl rfl rfl rfl) (by kernel_rfl) rfl
        · exact ob_skip (want_is hEA (g := 19) (x := true) (b := false) rfl rfl rfl rfl) (by kernel_rfl) rfl
        · refine ob_val (want_is hEA (g := 15) (x := true) (b := true) rfl rfl rfl rfl) (by kernel_rfl) (fun ph w' hp hpm hw => ?_)
          have e40 : Fr.tmps[40]? = some (.bool true) := hEA.dst 19 _ 40 rfl rfl; have e47 : Fr.tmps[47]? = some (undef) := hEA.dst 26 _ 47 rfl rfl; simp [execOp, e40, e47, go_sem]
        · refine ob_val (want_none rfl) (by kernel_rfl) (fun ph w' hp hpm hw => ?_)
          have e36 : Fr.tmps[36]? = some (.bool true) := hEA.dst 15 _ 36 rfl rfl; have e48 : Fr.tmps[48]? = some (.bool true) := hEA.dst 27 _ 48 rfl rfl; simp [execOp, e36, e48, go_sem]
        · exact ob_move _ rfl (want_none rfl) (by kernel_rfl) (eval_dst hEA (j := 28) rfl rfl)
        · exact ob_move _ rfl (want_is hEA (g := 29) (x := true) (b := true) rfl rfl rfl rfl) (by kernel_rfl) (eval_out hEA (d := 5) (by kernel_rfl))
        · refine ob_val (want_is hEA (g := 29) (x := true) (b := true) rfl rfl rfl rfl) (by kernel_rfl) (fun ph w' hp hpm hw => ?_)
          have e51 : Fr.tmps[51]? = some (.pointer (some ⟨ga, 0, none⟩)) := hEA.dst 30 _ 51 rfl rfl; simp [execOp, e51, go_sem]
        · refine ob_val (want_is hEA (g := 29) (x := true) (b := true) rfl rfl rfl rfl) (by kernel_rfl) (fun ph w' hp hpm hw => ?_)
          have e52 : Fr.tmps[52]? = some (.pointer (some ⟨ga, 0, none⟩)) := hEA.dst 31 _ 52 rfl rfl; simp [execOp, e52, go_sem]
        · refine ob_val (want_is hEA (g := 29) (x := true) (b := true) rfl rfl rfl rfl) (by kernel_rfl) (fun ph w' hp hpm hw => ?_)
          have hc0 := (hw.cell (p := ⟨ga, 1, none⟩) la.lt).trans bA
          have e53 : Fr.tmps[53]? = some (.pointer (some ⟨ga, 1, none⟩)) := hEA.dst 32 _ 53 rfl rfl; simp [execOp, e53, hc0, go_sem]
        · refine ob_val (want_is hEA (g := 29) (x := true) (b := true) rfl rfl rfl rfl) (by kernel_rfl) (fun ph w' hp hpm hw => ?_)
          have e54 : Fr.tmps[54]? = some (.bool false) := hEA.dst 33 _ 54 rfl rfl; simp [execOp, e54, go_sem]
        · exact ob_move _ rfl (want_is hEA (g := 29) (x := true) (b := true) rfl rfl rfl rfl) (by kernel_rfl) (eval_dst hEA (j := 34) rfl rfl)
        · exact ob_skip (want_is hEA (g := 35) (x := true) (b := false) rfl rfl rfl rfl) (by kernel_rfl) rfl
        · exact ob_skip (want_is hEA (g := 35) (x := true) (b := false) rfl rfl rfl rfl) (by kernel_rfl) rfl
        · exact ob_skip (want_is hEA (g := 35) (x := true) (b := false) rfl rfl rfl rfl) (by kernel_rfl) rfl
        · refine ob_val (want_is hEA (g := 29) (x := true) (b := true) rfl rfl rfl rfl) (by kernel_rfl) (fun ph w' hp hpm hw => ?_)
          have e56 : Fr.tmps[56]? = some (.bool true) := hEA.dst 35 _ 56 rfl rfl; have e59 : Fr.tmps[59]? = some (undef) := hEA.dst 38 _ 59 rfl rfl; simp [execOp, e56, e59, go_sem]
        · refine ob_val (want_none rfl) (by kernel_rfl) (fun ph w' hp hpm hw => ?_)
          have e50 : Fr.tmps[50]? = some (.bool true) := hEA.dst 29 _ 50 rfl rfl; have e60 : Fr.tmps[60]? = some (.bool true) := hEA.dst 39 _ 60 rfl rfl; simp [execOp, e50, e60, go_sem]
        · exact ob_move _ rfl (want_none rfl) (by kernel_rfl) (eval_dst hEA (j := 40) rfl rfl)
        · exact ob_move _ rfl (want_is hEA (g := 41) (x := true) (b := true) rfl rfl rfl rfl) (by kernel_rfl) (eval_out hEA (d := 6) (by kernel_rfl))
        · refine ob_val (want_is hEA (g := 41) (x := true) (b := true) rfl rfl rfl rfl) (by kernel_rfl) (fun ph w' hp hpm hw => ?_)
          have e63 : Fr.tmps[63]? = some (.pointer (some ⟨gb, 0, none⟩)) := hEA.dst 42 _ 63 rfl rfl; simp [execOp, e63, go_sem]
        · refine ob_val (want_is hEA (g := 41) (x := true) (b := true) rfl rfl rfl rfl) (by kernel_rfl) (fun ph w' hp hpm hw => ?_)
          have e64 : Fr.tmps[64]? = some (.pointer (some ⟨gb, 0, none⟩)) := hEA.dst 43 _ 64 rfl rfl; simp [execOp, e64, go_sem]
        · refine ob_val (want_is hEA (g := 41) (x := true) (b := true) rfl rfl rfl rfl) (by kernel_rfl) (fun ph w' hp hpm hw => ?_)
          have hc0 := (hw.cell (p := ⟨gb, 1, none⟩) lb.lt).trans bB
          have e65 : Fr.tmps[65]? = some (.pointer (some ⟨gb, 1, none⟩)) := hEA.dst 44 _ 65 rfl rfl; simp [execOp, e65, hc0, go_sem]
        · refine ob_val (want_is hEA (g := 41) (x := true) (b := true) rfl rfl rfl rfl) (by kernel_rfl) (fun ph w' hp hpm hw => ?_)
          have e66 : Fr.tmps[66]? = some (.bool false) := hEA.dst 45 _ 66 rfl rfl; simp [execOp, e66, go_sem]
        · exact ob_move _ rfl (want_is hEA (g := 41) (x := true) (b := true) rfl rfl rfl rfl) (by kernel_rfl) (eval_dst hEA (j := 46) rfl rfl)
        · exact ob_skip (want_is hEA (g := 47) (x := true) (b := false) rfl rfl rfl rfl) (by kernel_rfl) rfl
        · exact ob_skip (want_is hEA (g := 47) (x := true) (b := false) rfl rfl rfl rfl) (by kernel_rfl) rfl
        · exact ob_skip (want_is hEA (g := 47) (x := true) (b := false) rfl rfl rfl rfl) (by kernel_rfl) rfl
        · refine ob_val (want_is hEA (g := 41) (x := true) (b := true) rfl rfl rfl rfl) (by kernel_rfl) (fun ph w' hp hpm hw => ?_)
          have e68 : Fr.tmps[68]? = some (.bool true) := hEA.dst 47 _ 68 rfl rfl; have e71 : Fr.tmps[71]? = some (undef) := hEA.dst 50 _ 71 rfl rfl; simp [execOp, e68, e71, go_sem]
        · refine ob_val (want_none rfl) (by kernel_rfl) (fun ph w' hp hpm hw => ?_)
          have e62 : Fr.tmps[62]? = some (.bool true) := hEA.dst 41 _ 62 rfl rfl; have e72 : Fr.tmps[72]? = some (.bool true) := hEA.dst 51 _ 72 rfl rfl; simp [execOp, e62, e72, go_sem]
        · exact ob_move _ rfl (want_none rfl) (by kernel_rfl) (eval_dst hEA (j := 52) rfl rfl)
        · exact ob_move _ rfl (want_is hEA (g := 53) (x := true) (b := true) rfl rfl rfl rfl) (by kernel_rfl) (eval_out hEA (d := 5) (by kernel_rfl))
        · refine ob_val (want_is hEA (g := 53) (x := true) (b := true) rfl rfl rfl rfl) (by kernel_rfl) (fun ph w' hp hpm hw => ?_)
          have e75 : Fr.tmps[75]? = some (.pointer (some ⟨ga, 0, none⟩)) := hEA.dst 54 _ 75 rfl rfl; simp [execOp, e75, go_sem]
        · refine ob_val (want_is hEA (g := 53) (x := true) (b := true) rfl rfl rfl rfl) (by kernel_rfl) (fun ph w' hp hpm hw => ?_)
          have e76 : Fr.tmps[76]? = some (.pointer (some ⟨ga, 0, none⟩)) := hEA.dst 55 _ 76 rfl rfl; simp [execOp, e76, go_sem]
        · refine ob_val (want_is hEA (g := 53) (x := true) (b := true) rfl rfl rfl rfl) (by kernel_rfl) (fun ph w' hp hpm hw => ?_)
          have hc0 := (hw.cell (p := ⟨ga, 1, none⟩) la.lt).trans bA
          have e77 : Fr.tmps[77]? = some (.pointer (some ⟨ga, 1, none⟩)) := hEA.dst 56 _ 77 rfl rfl; simp [execOp, e77, hc0, go_sem]
        · exact ob_move _ rfl (want_is hEA (g := 53) (x := true) (b := true) rfl rfl rfl rfl) (by kernel_rfl) (eval_dst hEA (j := 57) rfl rfl)
        · refine ob_val (want_is hEA (g := 58) (x := false) (b := false) rfl rfl rfl rfl) (by kernel_rfl) (fun ph w' hp hpm hw => ?_)
          have hc0 := (hw.cell (p := ⟨W4.heap.size, 0, none⟩) bx.lt).trans (bx.c 0 _ rfl)
          have hc1 := (hw.cell (p := ⟨W4.heap.size, 1, none⟩) bx.lt).trans (bx.c 1 _ rfl)
          have e7 : Fr.tmps[7]? = some (.pointer (some ⟨W4.heap.size, 0, none⟩)) := at_out hEA (d := 7) (by kernel_rfl); simp [execOp, e7, hc0, hc1, go_sem]
        · refine ob_call (q := 3) (f := 11) (args := #[.agg #[.int .i64 x0, .int .i64 x1]]) (want_is hEA (g := 58) (x := false) (b := false) rfl rfl rfl rfl) (by kernel_rfl) (fun w' => by have e80 : Fr.tmps[80]? = some (.agg #[.int .i64 x0, .int .i64 x1]) := hEA.dst 59 _ 80 rfl rfl; simp [e80, go_sem]) ?_
          intro w' hw
          refine (Calls.mono (R := fun E W' => E = .returned (.bool true) ∧ Below w'.heap.size w' W') (by have := mright_any x0 x1 w'; rwa [hx] at this) ?_)
          rintro e w2 ⟨rfl, hb⟩
          exact ⟨rfl, hw.trans (hb.mono hw.size)⟩
        · refine ob_val (want_is hEA (g := 53) (x := true) (b := true) rfl rfl rfl rfl) (by kernel_rfl) (fun ph w' hp hpm hw => ?_)
          have e79 : Fr.tmps[79]? = some (.bool false) := hEA.dst 58 _ 79 rfl rfl; have e81 : Fr.tmps[81]? = some (.bool true) := hEA.dst 60 _ 81 rfl rfl; simp [execOp, e79, e81, go_sem]
        · refine ob_val (want_none rfl) (by kernel_rfl) (fun ph w' hp hpm hw => ?_)
          have e74 : Fr.tmps[74]? = some (.bool true) := hEA.dst 53 _ 74 rfl rfl; have e82 : Fr.tmps[82]? = some (.bool true) := hEA.dst 61 _ 82 rfl rfl; simp [execOp, e74, e82, go_sem]
        · exact ob_move _ rfl (want_none rfl) (by kernel_rfl) (eval_dst hEA (j := 62) rfl rfl)
        · exact ob_move _ rfl (want_is hEA (g := 63) (x := true) (b := true) rfl rfl rfl rfl) (by kernel_rfl) (eval_out hEA (d := 6) (by kernel_rfl))
        · refine ob_val (want_is hEA (g := 63) (x := true) (b := true) rfl rfl rfl rfl) (by kernel_rfl) (fun ph w' hp hpm hw => ?_)
          have e85 : Fr.tmps[85]? = some (.pointer (some ⟨gb, 0, none⟩)) := hEA.dst 64 _ 85 rfl rfl; simp [execOp, e85, go_sem]
        · refine ob_val (want_is hEA (g := 63) (x := true) (b := true) rfl rfl rfl rfl) (by kernel_rfl) (fun ph w' hp hpm hw => ?_)
          have e86 : Fr.tmps[86]? = some (.pointer (some ⟨gb, 0, none⟩)) := hEA.dst 65 _ 86 rfl rfl; simp [execOp, e86, go_sem]
        · refine ob_val (want_is hEA (g := 63) (x := true) (b := true) rfl rfl rfl rfl) (by kernel_rfl) (fun ph w' hp hpm hw => ?_)
          have hc0 := (hw.cell (p := ⟨gb, 1, none⟩) lb.lt).trans bB
          have e87 : Fr.tmps[87]? = some (.pointer (some ⟨gb, 1, none⟩)) := hEA.dst 66 _ 87 rfl rfl; simp [execOp, e87, hc0, go_sem]
        · exact ob_move _ rfl (want_is hEA (g := 63) (x := true) (b := true) rfl rfl rfl rfl) (by kernel_rfl) (eval_dst hEA (j := 67) rfl rfl)
        · refine ob_val (want_is hEA (g := 68) (x := false) (b := false) rfl rfl rfl rfl) (by kernel_rfl) (fun ph w' hp hpm hw => ?_)
          have hc0 := (hw.cell (p := ⟨W4.heap.size + 1, 0, none⟩) bY.lt).trans (bY.c 0 _ rfl)
          have hc1 := (hw.cell (p := ⟨W4.heap.size + 1, 1, none⟩) bY.lt).trans (bY.c 1 _ rfl)
          have hc2 := (hw.cell (p := ⟨W4.heap.size + 1, 2, none⟩) bY.lt).trans (bY.c 2 _ rfl)
          have e8 : Fr.tmps[8]? = some (.pointer (some ⟨W4.heap.size + 1, 0, none⟩)) := at_out hEA (d := 8) (by kernel_rfl); simp [execOp, e8, hc0, hc1, hc2, go_sem]
        · refine ob_call (q := 4) (f := 15) (args := #[.agg #[.int .i64 y0, .int .i64 y1, .int .i64 y2]]) (want_is hEA (g := 68) (x := false) (b := false) rfl rfl rfl rfl) (by kernel_rfl) (fun w' => by have e90 : Fr.tmps[90]? = some (.agg #[.int .i64 y0, .int .i64 y1, .int .i64 y2]) := hEA.dst 69 _ 90 rfl rfl; simp [e90, go_sem]) ?_
          intro w' hw
          refine (Calls.mono (R := fun E W' => E = .returned (.bool true) ∧ Below w'.heap.size w' W') (by have := id_any y0 y1 y2 w'; rwa [hy] at this) ?_)
          rintro e w2 ⟨rfl, hb⟩
          exact ⟨rfl, hw.trans (hb.mono hw.size)⟩
        · refine ob_val (want_is hEA (g := 63) (x := true) (b := true) rfl rfl rfl rfl) (by kernel_rfl) (fun ph w' hp hpm hw => ?_)
          have e89 : Fr.tmps[89]? = some (.bool false) := hEA.dst 68 _ 89 rfl rfl; have e91 : Fr.tmps[91]? = some (.bool true) := hEA.dst 70 _ 91 rfl rfl; simp [execOp, e89, e91, go_sem]
        · refine ob_val (want_none rfl) (by kernel_rfl) (fun ph w' hp hpm hw => ?_)
          have e84 : Fr.tmps[84]? = some (.bool true) := hEA.dst 63 _ 84 rfl rfl; have e92 : Fr.tmps[92]? = some (.bool true) := hEA.dst 71 _ 92 rfl rfl; simp [execOp, e84, e92, go_sem]
        · refine ob_val (want_none rfl) (by kernel_rfl) (fun ph w' hp hpm hw => ?_)
          have e93 : Fr.tmps[93]? = some (.bool true) := hEA.dst 72 _ 93 rfl rfl; simp [execOp, e93, go_sem]
      · intro w' hw
        simp only [laid, Act.put, List.setIfInBounds_toArray, List.set_cons_succ, List.set_cons_zero, List.getD_cons_succ, List.getD_cons_zero, Nat.zero_add, Nat.reduceAdd]
        go_wp2_with fail
        go_ret
        exact ⟨rfl, B5.trans (hw.mono B5.size)⟩

theorem memberBack_walk (x y : Array Value) (w : World) (w0 : ∃ m, IsM w.heap.size w m x.toList) (w1 : ∃ v, IsV w.heap.size w v y.toList) :
    Calls Try.prog 5 #[.agg x, .agg y] w fun e w' => e = .returned (.bool true) ∧ Below w.heap.size w w' := by
  obtain ⟨⟨a, b⟩, h0⟩ := w0
  obtain ⟨⟨c, d, u⟩, h1⟩ := w1
  have h0 : x = #[.int .i64 a, .int .i64 b] := by cases x; exact congrArg Array.mk h0
  have h1 : y = #[.int .i64 c, .int .i64 d, .int .i64 u] := by cases y; exact congrArg Array.mk h1
  subst h0 h1
  exact memberBack_in a b c d u w

end Go.Proofs.Ytbjefnboppfnaaa
