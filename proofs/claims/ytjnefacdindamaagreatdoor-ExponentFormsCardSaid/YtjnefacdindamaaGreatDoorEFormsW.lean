import Derived.Test.YtjnefacdindamaaGreatDoorAwake14
import Derived.Test.YtjnefacdindamaaGreatDoorExpK
import Derived.Test.YtjnefacdindamaaGreatDoorExpF
import Derived.Test.YtjnefacdindamaaGreatDoorExpL
import Derived.Test.YtjnefacdindamaaGreatDoorPhaseA
import Derived.Test.YtjnefacdindamaaGreatDoorLens
import Derived.Test.YtjnefacdindamaaGreatDoorPruR
import Derived.Test.YtjnefacdindamaaGreatDoorTreeR
/- lodgelaw14.ExponentForms answers true, whatever slices of spots and member come in, and leaves memory below as it was. No condition. -/
namespace Go.Proofs.YtjnefacdindamaaGreatDoor
open Go Go.RowKit Num
set_option linter.unusedVariables false
set_option maxRecDepth 100000

theorem flat_cut : ∀ (t u : Tr) (r s : List Sp), flat t ++ r = flat u ++ s → t = u ∧ r = s
  | .leaf a b, .leaf c d, r, s, h => by simp only [flat, List.cons_append, List.nil_append, List.cons.injEq, Prod.mk.injEq] at h; obtain ⟨⟨-, rfl, rfl⟩, rfl⟩ := h; exact ⟨rfl, rfl⟩
  | .leaf a b, .inner c d l q, r, s, h => by simp [flat] at h
  | .inner c d l q, .leaf a b, r, s, h => by simp [flat] at h
  | .inner a b l q, .inner c d l' q', r, s, h => by
    simp only [flat, List.cons_append, List.append_assoc, List.cons.injEq, Prod.mk.injEq, true_and] at h
    obtain ⟨⟨rfl, rfl⟩, h⟩ := h
    obtain ⟨e1, h2⟩ := flat_cut l l' _ _ h
    obtain ⟨e2, h3⟩ := flat_cut q q' _ _ h2
    subst e1 e2
    exact ⟨rfl, h3⟩
theorem spo_inj {x y : Option Tr} (h : spo x = spo y) : x = y := by
  cases x with
  | none =>
    cases y with
    | none => rfl
    | some u => have := flat_pos u; have h : [] = flat u := h; rw [← h] at this; simp at this
  | some t =>
    cases y with
    | none => have := flat_pos t; have h : flat t = [] := h; rw [h] at this; simp at this
    | some u => rw [(flat_cut t u [] [] (by rw [List.append_nil, List.append_nil]; exact h)).1]
theorem spo_lv (x : Option Tr) : (spo x).length ≤ 2 * (lvO x).length ∧ 2 * (lvO x).length ≤ (spo x).length + 1 := by
  cases x with
  | none => exact ⟨Nat.zero_le _, Nat.zero_le _⟩
  | some t =>
    have := flat_counts t
    have e1 : (spo (some t)).length = (flat t).length := rfl
    have e2 : (lvO (some t)).length = (lv (flat t)).length := rfl
    omega
theorem without_small {x : Option Tr} (m : Int × Int) (h : (spo x).length ≤ 40) : (spo (withoutO m x)).length ≤ 40 := by
  have h1 := spo_lv x
  have h2 := spo_lv (withoutO m x)
  have h3 : (lvO (withoutO m x)).length ≤ (lvO x).length := by rw [without_lv]; exact List.length_filter_le _ _
  omega
theorem without_other {x : Option Tr} {m : Int × Int} (h : m ∈ lvO x) : withoutO m x ≠ x := by
  intro e
  have h1 := without_lv m x
  rw [e] at h1
  rw [h1] at h
  simp at h
set_option maxRecDepth 100000 in
set_option maxHeartbeats 16000000 in
theorem exponentForms_walk (A : Option Addr) (la ca : Nat) (A' : Option Addr) (lb cb : Nat) (c : Array Value) (w : World) (h : ∃ xs, Spots w.heap.size w xs [.slice A la ca]) (h' : ∃ xs, Spots w.heap.size w xs [.slice A' lb cb]) (h'' : ∃ m, IsM w.heap.size w m c.toList) (hT : Tab w) :
    Calls Tryz.prog 6 #[.slice A la ca, .slice A' lb cb, .agg c] w fun e w' => e = .returned (.bool true) ∧ Below w.heap.size w w' := by
  have HTT : Hid (∀ W, Below w.heap.size w W → Tab W) := Lib.hid fun W hb => hT.next hb
  clear hT
  obtain ⟨⟨m1, m2⟩, hm⟩ := h''
  obtain rfl : c = #[.int .i64 m1, .int .i64 m2] := by
    have hm : c.toList = [.int .i64 m1, .int .i64 m2] := hm
    rw [← Array.toArray_toList (xs := c), hm]
  clear hm
  obtain ⟨xs, hx⟩ := h
  obtain ⟨ys, hy⟩ := h'
  obtain rfl : la = xs.length := by obtain ⟨_, _, e, _⟩ := spots_len hx _ rfl; simp only [Value.slice.injEq] at e; exact e.2.1
  obtain rfl : lb = ys.length := by obtain ⟨_, _, e, _⟩ := spots_len hy _ rfl; simp only [Value.slice.injEq] at e; exact e.2.1
  have HX := Lib.hid hx
  have HY := Lib.hid hy
  clear hx hy
  go_enter Tryz.func6, Tryz.ntmps6
  obtain ⟨la, hla⟩ : ∃ l, xs.length = l := ⟨_, rfl⟩
  obtain ⟨lb, hlb⟩ : ∃ l, ys.length = l := ⟨_, rfl⟩
  rw [hla] at HX
  rw [hlb] at HY
  rw [hla, hlb]
  obtain ⟨W0, hW0, b1, B⟩ : ∃ W0, w.alloc (.cells #[.int .i64 m1, .int .i64 m2] 29) = W0 ∧ Box W0 w.heap.size [.int .i64 m1, .int .i64 m2] ∧ Below w.heap.size w W0 := ⟨_, rfl, Box.new w _ _, below_new _ _⟩
  by_cases h1 : 40 < la
  · have hd : decide (40 < la) = true := decide_eq_true h1
    have hd2 : decide ((40 : Int) < (la : Int)) = true := decide_eq_true (by omega)
    go_wp2_with fail
    clear hW0
    refine (awake14_any W0 (HTT.out _ B)).mono ?_
    rintro e W9 ⟨rfl, B9⟩
    go_wp2
    go_ret
    exact ⟨rfl, B.trans (B9.mono B.size)⟩
  · have hd : decide (40 < la) = false := decide_eq_false h1
    have hd2 : decide ((40 : Int) < (la : Int)) = false := decide_eq_false (by omega)
    by_cases h2 : 40 < lb
    · have hd3 : decide (40 < lb) = true := decide_eq_true h2
      have hd4 : decide ((40 : Int) < (lb : Int)) = true := decide_eq_true (by omega)
      go_wp2_with fail
      clear hW0
      refine (awake14_any W0 (HTT.out _ B)).mono ?_
      rintro e W9 ⟨rfl, B9⟩
      go_wp2
      go_ret
      exact ⟨rfl, B.trans (B9.mono B.size)⟩
    · have hd3 : decide (40 < lb) = false := decide_eq_false h2
      have hd4 : decide ((40 : Int) < (lb : Int)) = false := decide_eq_false (by omega)
      go_wp2_with fail
      clear hW0
      replace HX := Lib.hid (keeps_spots _ _ _ _ _ _ HX.out B B.size)
      replace HY := Lib.hid (keeps_spots _ _ _ _ _ _ HY.out B B.size)
      obtain ⟨G1, hG1⟩ : ∃ G, w.heap.size = G := ⟨_, rfl⟩
      rw [hG1] at b1
      try rw [hG1]
      clear hG1
      refine (refRight_any _ xs W0 HX.out (by omega)).mono ?_
      rintro e W1 ⟨rfl, hb⟩
      replace HX := Lib.hid (keeps_spots _ _ _ _ _ _ HX.out hb hb.size)
      replace HY := Lib.hid (keeps_spots _ _ _ _ _ _ HY.out hb hb.size)
      replace b1 := b1.next hb
      replace B := B.trans (hb.mono B.size)
      clear hb hd hd2 hd3 hd4
      cases hox : okT xs
      · clear hox
        go_wp2_with fail
        refine (awake14_any W1 (HTT.out _ B)).mono ?_
        rintro e W9 ⟨rfl, B9⟩
        go_wp2
        go_ret
        exact ⟨rfl, B.trans (B9.mono B.size)⟩
      · obtain ⟨x, rfl⟩ := spo_of hox
        go_wp2_with fail
        refine (refRight_any _ ys W1 HY.out (by omega)).mono ?_
        rintro e W2 ⟨rfl, hb⟩
        replace HX := Lib.hid (keeps_spots _ _ _ _ _ _ HX.out hb hb.size)
        replace HY := Lib.hid (keeps_spots _ _ _ _ _ _ HY.out hb hb.size)
        replace b1 := b1.next hb
        replace B := B.trans (hb.mono B.size)
        clear hb
        cases hoy : okT ys
        · clear hoy hox
          go_wp2_with fail
          refine (awake14_any W2 (HTT.out _ B)).mono ?_
          rintro e W9 ⟨rfl, B9⟩
          go_wp2
          go_ret
          exact ⟨rfl, B.trans (B9.mono B.size)⟩
        · obtain ⟨y, rfl⟩ := spo_of hoy
          have hhx : htO x ≤ 60 := ht_small (by omega)
          have hhy : htO y ≤ 60 := ht_small (by omega)
          have hxn : (spo x).length ≤ 400000 := by omega
          have hwo : okT (spo (withoutO (m1, m2) x)) = true := okT_keep hox _
          have hwh : htO (withoutO (m1, m2) x) ≤ 60 := ht_small (without_small _ (by omega))
          have hfe : (formO x == formO y) = decide (spo x = spo y) := by
            rw [Bool.eq_iff_iff, beq_iff_eq, decide_eq_true_eq, form_inj hox hoy]
            exact ⟨fun h => by rw [h], spo_inj⟩
          have hfw : (m1, m2) ∈ lvO x → (formO (withoutO (m1, m2) x) == formO x) = false := fun hm => by
            rw [beq_eq_false_iff_ne]
            exact fun h => without_other hm ((form_inj hwo hox).1 h)
          by_cases hxy : spo x = spo y
          · have HQ : Hid (decide (spo x = spo y) = true) := Lib.hid (decide_eq_true hxy)
            have hfq : (formO x == formO y) = true := by rw [hfe]; exact HQ.out
            clear hxy hfe
            by_cases hml : (m1, m2) ∈ lvO x
            · have HM : Hid (decide ((m1, m2) ∈ lvO x) = true) := Lib.hid (decide_eq_true hml)
              have hfv := hfw hml
              clear hml hfw
              go_wp2_with fail
              refine wp_region_results (fun r i => ([.bool true, .bool true, .slice A la ca, .string (tx (formO x)), .slice A' lb cb, .string (tx (formO y)), .bool true, .slice A la ca, .slice A' lb cb, .bool true, .bool true, .bool true, .bool true, .slice A la ca, (r 4), .agg #[.int .i64 m1, .int .i64 m2], .bool true, .bool false, .bool false, .slice A la ca, .agg #[.int .i64 m1, .int .i64 m2], (r 6), .string (tx (formO (withoutO (m1, m2) x))), .slice A la ca, .string (tx (formO x)), .bool true, .bool true, .bool true, .bool true] : List Value).getD i undef) [0, 3, 5, 9, 14, 16, 21, 22, 24] [0, 1, 1, 1, 1, 2, 3, 1, 1, 3, 4, 4, 4, 4, 4, 4, 5, 6, 6, 6, 6, 6, 7, 6, 8, 9, 9, 9, 9] (fun r q w' => (Below W2.heap.size W2 w') ∧ (4 < q → Mems w'.heap.size w' (lvO x) [(r 4)]) ∧ (6 < q → Spots w'.heap.size w' (spo (withoutO (m1, m2) x)) [(r 6)])) (by kernel_rfl) (by kernel_rfl) (fun r => ⟨⟨rfl, rfl, rfl, Nat.le_refl _, fun _ _ => rfl⟩, fun h => absurd h (Nat.not_lt_zero _), fun h => absurd h (Nat.not_lt_zero _)⟩) ?_ ?_
              · refine ObsR_of_ends (by kernel_rfl) ?_
                intro r Fr hEA
                refine ⟨?_, ?_, ?_, ?_, ?_, ?_, ?_, ?_, ?_, ?_, ?_, ?_, ?_, ?_, ?_, ?_, ?_, ?_, ?_, ?_, ?_, ?_, ?_, ?_, ?_, ?_, ?_, ?_, ?_, trivial⟩
                · refine obR_call (q := 0) (f := 9) (args := #[]) (want_none rfl) (by kernel_rfl) (fun w' => by simp [go_sem]) ?_
                  intro w' hw
                  refine (awake14_any w' (HTT.out _ (B.trans (hw.1.mono B.size)))).mono ?_
                  rintro e w2 ⟨rfl, hb⟩
                  exact ⟨_, rfl, fun r' hr hv => ⟨rfl, ⟨hw.1.trans (hb.mono hw.1.size), fun h => absurd h (by decide), fun h => absurd h (by decide)⟩⟩⟩
                · exact obR_move _ rfl (want_none rfl) (by kernel_rfl) (eval_dst hEA (j := 0) rfl rfl)
                · exact obR_move _ rfl (want_is hEA (g := 1) (x := true) (b := true) rfl rfl rfl rfl) (by kernel_rfl) (eval_out hEA (d := 0) (by kernel_rfl))
                · refine obR_call (q := 1) (f := 16) (args := #[.slice A la ca]) (want_is hEA (g := 1) (x := true) (b := true) rfl rfl rfl rfl) (by kernel_rfl) (fun w' => by have e28 : Fr.tmps[28]? = some (.slice A la ca) := hEA.dst 2 _ 28 rfl rfl; simp [e28, go_sem]) ?_
                  intro w' hw
                  refine (eFormal_any x _ w' (keeps_spots _ _ _ _ _ _ HX.out hw.1 hw.1.size) hox hhx (HTT.out _ (B.trans (hw.1.mono B.size)))).mono ?_
                  rintro e w2 ⟨rfl, hb⟩
                  exact ⟨_, rfl, fun r' hr hv => ⟨rfl, ⟨hw.1.trans (hb.mono hw.1.size), fun h => absurd h (by decide), fun h => absurd h (by decide)⟩⟩⟩
                · exact obR_move _ rfl (want_is hEA (g := 1) (x := true) (b := true) rfl rfl rfl rfl) (by kernel_rfl) (eval_out hEA (d := 1) (by kernel_rfl))
                · refine obR_call (q := 2) (f := 16) (args := #[.slice A' lb cb]) (want_is hEA (g := 1) (x := true) (b := true) rfl rfl rfl rfl) (by kernel_rfl) (fun w' => by have e30 : Fr.tmps[30]? = some (.slice A' lb cb) := hEA.dst 4 _ 30 rfl rfl; simp [e30, go_sem]) ?_
                  intro w' hw
                  refine (eFormal_any y _ w' (keeps_spots _ _ _ _ _ _ HY.out hw.1 hw.1.size) hoy hhy (HTT.out _ (B.trans (hw.1.mono B.size)))).mono ?_
                  rintro e w2 ⟨rfl, hb⟩
                  exact ⟨_, rfl, fun r' hr hv => ⟨rfl, ⟨hw.1.trans (hb.mono hw.1.size), fun h => absurd h (by decide), fun h => absurd h (by decide)⟩⟩⟩
                · refine obR_val (want_is hEA (g := 1) (x := true) (b := true) rfl rfl rfl rfl) (by kernel_rfl) (fun ph w' hp hpm hw => ?_)
                  have e29 : Fr.tmps[29]? = some (.string (tx (formO x))) := hEA.dst 3 _ 29 rfl rfl; have e31 : Fr.tmps[31]? = some (.string (tx (formO y))) := hEA.dst 5 _ 31 rfl rfl; simp [execOp, e29, e31, tx_list, hfq, go_sem]
                · exact obR_move _ rfl (want_is hEA (g := 1) (x := true) (b := true) rfl rfl rfl rfl) (by kernel_rfl) (eval_out hEA (d := 0) (by kernel_rfl))
                · exact obR_move _ rfl (want_is hEA (g := 1) (x := true) (b := true) rfl rfl rfl rfl) (by kernel_rfl) (eval_out hEA (d := 1) (by kernel_rfl))
                · refine obR_call (q := 3) (f := 24) (args := #[.slice A la ca, .slice A' lb cb]) (want_is hEA (g := 1) (x := true) (b := true) rfl rfl rfl rfl) (by kernel_rfl) (fun w' => by have e33 : Fr.tmps[33]? = some (.slice A la ca) := hEA.dst 7 _ 33 rfl rfl; have e34 : Fr.tmps[34]? = some (.slice A' lb cb) := hEA.dst 8 _ 34 rfl rfl; simp [e33, e34, go_sem]) ?_
                  intro w' hw
                  refine ((show Calls _ _ _ _ (fun e W' => e = .returned (.bool true) ∧ Below w'.heap.size w' W') from by have := sameS_any _ _ (spo x) (spo y) w' (keeps_spots _ _ _ _ _ _ HX.out hw.1 hw.1.size) (keeps_spots _ _ _ _ _ _ HY.out hw.1 hw.1.size) (by omega); rwa [HQ.out] at this)).mono ?_
                  rintro e w2 ⟨rfl, hb⟩
                  exact ⟨_, rfl, fun r' hr hv => ⟨rfl, ⟨hw.1.trans (hb.mono hw.1.size), fun h => absurd h (by decide), fun h => absurd h (by decide)⟩⟩⟩
                · refine obR_val (want_is hEA (g := 1) (x := true) (b := true) rfl rfl rfl rfl) (by kernel_rfl) (fun ph w' hp hpm hw => ?_)
                  have e32 : Fr.tmps[32]? = some (.bool true) := hEA.dst 6 _ 32 rfl rfl; have e35 : Fr.tmps[35]? = some (.bool true) := hEA.dst 9 _ 35 rfl rfl; simp [execOp, e32, e35, go_sem]
                · refine obR_val (want_none rfl) (by kernel_rfl) (fun ph w' hp hpm hw => ?_)
                  have e27 : Fr.tmps[27]? = some (.bool true) := hEA.dst 1 _ 27 rfl rfl; have e36 : Fr.tmps[36]? = some (.bool true) := hEA.dst 10 _ 36 rfl rfl; simp [execOp, e27, e36, go_sem]
                · exact obR_move _ rfl (want_none rfl) (by kernel_rfl) (eval_dst hEA (j := 11) rfl rfl)
                · exact obR_move _ rfl (want_is hEA (g := 12) (x := true) (b := true) rfl rfl rfl rfl) (by kernel_rfl) (eval_out hEA (d := 0) (by kernel_rfl))
                · refine obR_call (q := 4) (f := 22) (args := #[.slice A la ca]) (want_is hEA (g := 12) (x := true) (b := true) rfl rfl rfl rfl) (by kernel_rfl) (fun w' => by have e39 : Fr.tmps[39]? = some (.slice A la ca) := hEA.dst 13 _ 39 rfl rfl; simp [e39, go_sem]) ?_
                  intro w' hw
                  refine (refLeaves_any _ (spo x) w' (keeps_spots _ _ _ _ _ _ HX.out hw.1 hw.1.size) (by omega)).mono ?_
                  rintro e w2 ⟨v', rfl, hs, hb⟩
                  exact ⟨_, rfl, fun r' hr hv => ⟨hv, ⟨hw.1.trans (hb.mono hw.1.size), fun _ => by rw [hv]; exact hs, fun h => absurd h (by decide)⟩⟩⟩
                · refine obR_val (want_is hEA (g := 12) (x := true) (b := true) rfl rfl rfl rfl) (by kernel_rfl) (fun ph w' hp hpm hw => ?_)
                  have hc0 := (hw.1.cell (p := ⟨G1, 0, none⟩) b1.lt).trans (b1.c 0 _ rfl)
                  have hc1 := (hw.1.cell (p := ⟨G1, 1, none⟩) b1.lt).trans (b1.c 1 _ rfl)
                  have e5 : Fr.tmps[5]? = some (.pointer (some ⟨G1, 0, none⟩)) := at_out hEA (d := 5) (by kernel_rfl); simp [execOp, e5, hc0, hc1, go_sem]
                · refine obR_call (q := 5) (f := 25) (args := #[(r 4), .agg #[.int .i64 m1, .int .i64 m2]]) (want_is hEA (g := 12) (x := true) (b := true) rfl rfl rfl rfl) (by kernel_rfl) (fun w' => by have e40 : Fr.tmps[40]? = some ((r 4)) := hEA.dst 14 _ 40 rfl rfl; have e41 : Fr.tmps[41]? = some (.agg #[.int .i64 m1, .int .i64 m2]) := hEA.dst 15 _ 41 rfl rfl; simp [e40, e41, go_sem]) ?_
                  intro w' hw
                  refine ((show Calls _ _ _ _ (fun e W' => e = .returned (.bool true) ∧ Below w'.heap.size w' W') from by have := refHas_any _ (lvO x) m1 m2 w' (hw.2.1 (by decide)); rwa [HM.out] at this)).mono ?_
                  rintro e w2 ⟨rfl, hb⟩
                  exact ⟨_, rfl, fun r' hr hv => ⟨rfl, ⟨hw.1.trans (hb.mono hw.1.size), fun _ => by rw [hr 4 (by decide)]; exact keeps_mems _ _ _ _ _ _ (hw.2.1 (by decide)) hb hb.size, fun h => absurd h (by decide)⟩⟩⟩
                · refine obR_val (want_is hEA (g := 12) (x := true) (b := true) rfl rfl rfl rfl) (by kernel_rfl) (fun ph w' hp hpm hw => ?_)
                  have e42 : Fr.tmps[42]? = some (.bool true) := hEA.dst 16 _ 42 rfl rfl; simp [execOp, e42, go_sem]
                · exact obR_move _ rfl (want_is hEA (g := 12) (x := true) (b := true) rfl rfl rfl rfl) (by kernel_rfl) (eval_dst hEA (j := 17) rfl rfl)
                · exact obR_move _ rfl (want_is hEA (g := 18) (x := false) (b := false) rfl rfl rfl rfl) (by kernel_rfl) (eval_out hEA (d := 0) (by kernel_rfl))
                · refine obR_val (want_is hEA (g := 18) (x := false) (b := false) rfl rfl rfl rfl) (by kernel_rfl) (fun ph w' hp hpm hw => ?_)
                  have hc0 := (hw.1.cell (p := ⟨G1, 0, none⟩) b1.lt).trans (b1.c 0 _ rfl)
                  have hc1 := (hw.1.cell (p := ⟨G1, 1, none⟩) b1.lt).trans (b1.c 1 _ rfl)
                  have e5 : Fr.tmps[5]? = some (.pointer (some ⟨G1, 0, none⟩)) := at_out hEA (d := 5) (by kernel_rfl); simp [execOp, e5, hc0, hc1, go_sem]
                · refine obR_call (q := 6) (f := 26) (args := #[.slice A la ca, .agg #[.int .i64 m1, .int .i64 m2]]) (want_is hEA (g := 18) (x := false) (b := false) rfl rfl rfl rfl) (by kernel_rfl) (fun w' => by have e45 : Fr.tmps[45]? = some (.slice A la ca) := hEA.dst 19 _ 45 rfl rfl; have e46 : Fr.tmps[46]? = some (.agg #[.int .i64 m1, .int .i64 m2]) := hEA.dst 20 _ 46 rfl rfl; simp [e45, e46, go_sem]) ?_
                  intro w' hw
                  refine (refWithout_any _ x m1 m2 w' (keeps_spots _ _ _ _ _ _ HX.out hw.1 hw.1.size) hxn).mono ?_
                  rintro e w2 ⟨v', rfl, hs, hb⟩
                  exact ⟨_, rfl, fun r' hr hv => ⟨hv, ⟨hw.1.trans (hb.mono hw.1.size), fun _ => by rw [hr 4 (by decide)]; exact keeps_mems _ _ _ _ _ _ (hw.2.1 (by decide)) hb hb.size, fun _ => by rw [hv]; exact hs⟩⟩⟩
                · refine obR_call (q := 7) (f := 16) (args := #[(r 6)]) (want_is hEA (g := 18) (x := false) (b := false) rfl rfl rfl rfl) (by kernel_rfl) (fun w' => by have e47 : Fr.tmps[47]? = some ((r 6)) := hEA.dst 21 _ 47 rfl rfl; simp [e47, go_sem]) ?_
                  intro w' hw
                  refine (eFormal_any (withoutO (m1, m2) x) _ w' (hw.2.2 (by decide)) hwo hwh (HTT.out _ (B.trans (hw.1.mono B.size)))).mono ?_
                  rintro e w2 ⟨rfl, hb⟩
                  exact ⟨_, rfl, fun r' hr hv => ⟨rfl, ⟨hw.1.trans (hb.mono hw.1.size), fun _ => by rw [hr 4 (by decide)]; exact keeps_mems _ _ _ _ _ _ (hw.2.1 (by decide)) hb hb.size, fun _ => by rw [hr 6 (by decide)]; exact keeps_spots _ _ _ _ _ _ (hw.2.2 (by decide)) hb hb.size⟩⟩⟩
                · exact obR_move _ rfl (want_is hEA (g := 18) (x := false) (b := false) rfl rfl rfl rfl) (by kernel_rfl) (eval_out hEA (d := 0) (by kernel_rfl))
                · refine obR_call (q := 8) (f := 16) (args := #[.slice A la ca]) (want_is hEA (g := 18) (x := false) (b := false) rfl rfl rfl rfl) (by kernel_rfl) (fun w' => by have e49 : Fr.tmps[49]? = some (.slice A la ca) := hEA.dst 23 _ 49 rfl rfl; simp [e49, go_sem]) ?_
                  intro w' hw
                  refine (eFormal_any x _ w' (keeps_spots _ _ _ _ _ _ HX.out hw.1 hw.1.size) hox hhx (HTT.out _ (B.trans (hw.1.mono B.size)))).mono ?_
                  rintro e w2 ⟨rfl, hb⟩
                  exact ⟨_, rfl, fun r' hr hv => ⟨rfl, ⟨hw.1.trans (hb.mono hw.1.size), fun _ => by rw [hr 4 (by decide)]; exact keeps_mems _ _ _ _ _ _ (hw.2.1 (by decide)) hb hb.size, fun _ => by rw [hr 6 (by decide)]; exact keeps_spots _ _ _ _ _ _ (hw.2.2 (by decide)) hb hb.size⟩⟩⟩
                · refine obR_val (want_is hEA (g := 18) (x := false) (b := false) rfl rfl rfl rfl) (by kernel_rfl) (fun ph w' hp hpm hw => ?_)
                  have e48 : Fr.tmps[48]? = some (.string (tx (formO (withoutO (m1, m2) x)))) := hEA.dst 22 _ 48 rfl rfl; have e50 : Fr.tmps[50]? = some (.string (tx (formO x))) := hEA.dst 24 _ 50 rfl rfl; simp [execOp, e48, e50, tx_list, hfv, go_sem]
                · refine obR_val (want_is hEA (g := 12) (x := true) (b := true) rfl rfl rfl rfl) (by kernel_rfl) (fun ph w' hp hpm hw => ?_)
                  have e44 : Fr.tmps[44]? = some (.bool false) := hEA.dst 18 _ 44 rfl rfl; have e51 : Fr.tmps[51]? = some (.bool true) := hEA.dst 25 _ 51 rfl rfl; simp [execOp, e44, e51, go_sem]
                · refine obR_val (want_none rfl) (by kernel_rfl) (fun ph w' hp hpm hw => ?_)
                  have e38 : Fr.tmps[38]? = some (.bool true) := hEA.dst 12 _ 38 rfl rfl; have e52 : Fr.tmps[52]? = some (.bool true) := hEA.dst 26 _ 52 rfl rfl; simp [execOp, e38, e52, go_sem]
                · refine obR_val (want_none rfl) (by kernel_rfl) (fun ph w' hp hpm hw => ?_)
                  have e53 : Fr.tmps[53]? = some (.bool true) := hEA.dst 27 _ 53 rfl rfl; simp [execOp, e53, go_sem]
              · intro r w' hw
                simp only [laid, Act.put, List.setIfInBounds_toArray, List.set_cons_succ, List.set_cons_zero, List.getD_cons_succ, List.getD_cons_zero, Nat.zero_add, Nat.reduceAdd]
                go_wp2
                go_ret
                exact ⟨rfl, B.trans (hw.1.mono B.size)⟩
            · have HM : Hid (decide ((m1, m2) ∈ lvO x) = false) := Lib.hid (decide_eq_false hml)
              clear hml hfw
              go_wp2_with fail
              refine wp_region_results (fun r i => ([.bool true, .bool true, .slice A la ca, .string (tx (formO x)), .slice A' lb cb, .string (tx (formO y)), .bool true, .slice A la ca, .slice A' lb cb, .bool true, .bool true, .bool true, .bool true, .slice A la ca, (r 4), .agg #[.int .i64 m1, .int .i64 m2], .bool false, .bool true, .bool true, undef, undef, undef, undef, undef, undef, undef, .bool true, .bool true, .bool true] : List Value).getD i undef) [0, 3, 5, 9, 14, 16] [0, 1, 1, 1, 1, 2, 3, 1, 1, 3, 4, 4, 4, 4, 4, 4, 5, 6, 6, 6, 6, 6, 6, 6, 6, 6, 6, 6, 6] (fun r q w' => (Below W2.heap.size W2 w') ∧ (4 < q → Mems w'.heap.size w' (lvO x) [(r 4)])) (by kernel_rfl) (by kernel_rfl) (fun r => ⟨⟨rfl, rfl, rfl, Nat.le_refl _, fun _ _ => rfl⟩, fun h => absurd h (Nat.not_lt_zero _)⟩) ?_ ?_
              · refine ObsR_of_ends (by kernel_rfl) ?_
                intro r Fr hEA
                refine ⟨?_, ?_, ?_, ?_, ?_, ?_, ?_, ?_, ?_, ?_, ?_, ?_, ?_, ?_, ?_, ?_, ?_, ?_, ?_, ?_, ?_, ?_, ?_, ?_, ?_, ?_, ?_, ?_, ?_, trivial⟩
                · refine obR_call (q := 0) (f := 9) (args := #[]) (want_none rfl) (by kernel_rfl) (fun w' => by simp [go_sem]) ?_
                  intro w' hw
                  refine (awake14_any w' (HTT.out _ (B.trans (hw.1.mono B.size)))).mono ?_
                  rintro e w2 ⟨rfl, hb⟩
                  exact ⟨_, rfl, fun r' hr hv => ⟨rfl, ⟨hw.1.trans (hb.mono hw.1.size), fun h => absurd h (by decide)⟩⟩⟩
                · exact obR_move _ rfl (want_none rfl) (by kernel_rfl) (eval_dst hEA (j := 0) rfl rfl)
                · exact obR_move _ rfl (want_is hEA (g := 1) (x := true) (b := true) rfl rfl rfl rfl) (by kernel_rfl) (eval_out hEA (d := 0) (by kernel_rfl))
                · refine obR_call (q := 1) (f := 16) (args := #[.slice A la ca]) (want_is hEA (g := 1) (x := true) (b := true) rfl rfl rfl rfl) (by kernel_rfl) (fun w' => by have e28 : Fr.tmps[28]? = some (.slice A la ca) := hEA.dst 2 _ 28 rfl rfl; simp [e28, go_sem]) ?_
                  intro w' hw
                  refine (eFormal_any x _ w' (keeps_spots _ _ _ _ _ _ HX.out hw.1 hw.1.size) hox hhx (HTT.out _ (B.trans (hw.1.mono B.size)))).mono ?_
                  rintro e w2 ⟨rfl, hb⟩
                  exact ⟨_, rfl, fun r' hr hv => ⟨rfl, ⟨hw.1.trans (hb.mono hw.1.size), fun h => absurd h (by decide)⟩⟩⟩
                · exact obR_move _ rfl (want_is hEA (g := 1) (x := true) (b := true) rfl rfl rfl rfl) (by kernel_rfl) (eval_out hEA (d := 1) (by kernel_rfl))
                · refine obR_call (q := 2) (f := 16) (args := #[.slice A' lb cb]) (want_is hEA (g := 1) (x := true) (b := true) rfl rfl rfl rfl) (by kernel_rfl) (fun w' => by have e30 : Fr.tmps[30]? = some (.slice A' lb cb) := hEA.dst 4 _ 30 rfl rfl; simp [e30, go_sem]) ?_
                  intro w' hw
                  refine (eFormal_any y _ w' (keeps_spots _ _ _ _ _ _ HY.out hw.1 hw.1.size) hoy hhy (HTT.out _ (B.trans (hw.1.mono B.size)))).mono ?_
                  rintro e w2 ⟨rfl, hb⟩
                  exact ⟨_, rfl, fun r' hr hv => ⟨rfl, ⟨hw.1.trans (hb.mono hw.1.size), fun h => absurd h (by decide)⟩⟩⟩
                · refine obR_val (want_is hEA (g := 1) (x := true) (b := true) rfl rfl rfl rfl) (by kernel_rfl) (fun ph w' hp hpm hw => ?_)
                  have e29 : Fr.tmps[29]? = some (.string (tx (formO x))) := hEA.dst 3 _ 29 rfl rfl; have e31 : Fr.tmps[31]? = some (.string (tx (formO y))) := hEA.dst 5 _ 31 rfl rfl; simp [execOp, e29, e31, tx_list, hfq, go_sem]
                · exact obR_move _ rfl (want_is hEA (g := 1) (x := true) (b := true) rfl rfl rfl rfl) (by kernel_rfl) (eval_out hEA (d := 0) (by kernel_rfl))
                · exact obR_move _ rfl (want_is hEA (g := 1) (x := true) (b := true) rfl rfl rfl rfl) (by kernel_rfl) (eval_out hEA (d := 1) (by kernel_rfl))
                · refine obR_call (q := 3) (f := 24) (args := #[.slice A la ca, .slice A' lb cb]) (want_is hEA (g := 1) (x := true) (b := true) rfl rfl rfl rfl) (by kernel_rfl) (fun w' => by have e33 : Fr.tmps[33]? = some (.slice A la ca) := hEA.dst 7 _ 33 rfl rfl; have e34 : Fr.tmps[34]? = some (.slice A' lb cb) := hEA.dst 8 _ 34 rfl rfl; simp [e33, e34, go_sem]) ?_
                  intro w' hw
                  refine ((show Calls _ _ _ _ (fun e W' => e = .returned (.bool true) ∧ Below w'.heap.size w' W') from by have := sameS_any _ _ (spo x) (spo y) w' (keeps_spots _ _ _ _ _ _ HX.out hw.1 hw.1.size) (keeps_spots _ _ _ _ _ _ HY.out hw.1 hw.1.size) (by omega); rwa [HQ.out] at this)).mono ?_
                  rintro e w2 ⟨rfl, hb⟩
                  exact ⟨_, rfl, fun r' hr hv => ⟨rfl, ⟨hw.1.trans (hb.mono hw.1.size), fun h => absurd h (by decide)⟩⟩⟩
                · refine obR_val (want_is hEA (g := 1) (x := true) (b := true) rfl rfl rfl rfl) (by kernel_rfl) (fun ph w' hp hpm hw => ?_)
                  have e32 : Fr.tmps[32]? = some (.bool true) := hEA.dst 6 _ 32 rfl rfl; have e35 : Fr.tmps[35]? = some (.bool true) := hEA.dst 9 _ 35 rfl rfl; simp [execOp, e32, e35, go_sem]
                · refine obR_val (want_none rfl) (by kernel_rfl) (fun ph w' hp hpm hw => ?_)
                  have e27 : Fr.tmps[27]? = some (.bool true) := hEA.dst 1 _ 27 rfl rfl; have e36 : Fr.tmps[36]? = some (.bool true) := hEA.dst 10 _ 36 rfl rfl; simp [execOp, e27, e36, go_sem]
                · exact obR_move _ rfl (want_none rfl) (by kernel_rfl) (eval_dst hEA (j := 11) rfl rfl)
                · exact obR_move _ rfl (want_is hEA (g := 12) (x := true) (b := true) rfl rfl rfl rfl) (by kernel_rfl) (eval_out hEA (d := 0) (by kernel_rfl))
                · refine obR_call (q := 4) (f := 22) (args := #[.slice A la ca]) (want_is hEA (g := 12) (x := true) (b := true) rfl rfl rfl rfl) (by kernel_rfl) (fun w' => by have e39 : Fr.tmps[39]? = some (.slice A la ca) := hEA.dst 13 _ 39 rfl rfl; simp [e39, go_sem]) ?_
                  intro w' hw
                  refine (refLeaves_any _ (spo x) w' (keeps_spots _ _ _ _ _ _ HX.out hw.1 hw.1.size) (by omega)).mono ?_
                  rintro e w2 ⟨v', rfl, hs, hb⟩
                  exact ⟨_, rfl, fun r' hr hv => ⟨hv, ⟨hw.1.trans (hb.mono hw.1.size), fun _ => by rw [hv]; exact hs⟩⟩⟩
                · refine obR_val (want_is hEA (g := 12) (x := true) (b := true) rfl rfl rfl rfl) (by kernel_rfl) (fun ph w' hp hpm hw => ?_)
                  have hc0 := (hw.1.cell (p := ⟨G1, 0, none⟩) b1.lt).trans (b1.c 0 _ rfl)
                  have hc1 := (hw.1.cell (p := ⟨G1, 1, none⟩) b1.lt).trans (b1.c 1 _ rfl)
                  have e5 : Fr.tmps[5]? = some (.pointer (some ⟨G1, 0, none⟩)) := at_out hEA (d := 5) (by kernel_rfl); simp [execOp, e5, hc0, hc1, go_sem]
                · refine obR_call (q := 5) (f := 25) (args := #[(r 4), .agg #[.int .i64 m1, .int .i64 m2]]) (want_is hEA (g := 12) (x := true) (b := true) rfl rfl rfl rfl) (by kernel_rfl) (fun w' => by have e40 : Fr.tmps[40]? = some ((r 4)) := hEA.dst 14 _ 40 rfl rfl; have e41 : Fr.tmps[41]? = some (.agg #[.int .i64 m1, .int .i64 m2]) := hEA.dst 15 _ 41 rfl rfl; simp [e40, e41, go_sem]) ?_
                  intro w' hw
                  refine ((show Calls _ _ _ _ (fun e W' => e = .returned (.bool false) ∧ Below w'.heap.size w' W') from by have := refHas_any _ (lvO x) m1 m2 w' (hw.2 (by decide)); rwa [HM.out] at this)).mono ?_
                  rintro e w2 ⟨rfl, hb⟩
                  exact ⟨_, rfl, fun r' hr hv => ⟨rfl, ⟨hw.1.trans (hb.mono hw.1.size), fun _ => by rw [hr 4 (by decide)]; exact keeps_mems _ _ _ _ _ _ (hw.2 (by decide)) hb hb.size⟩⟩⟩
                · refine obR_val (want_is hEA (g := 12) (x := true) (b := true) rfl rfl rfl rfl) (by kernel_rfl) (fun ph w' hp hpm hw => ?_)
                  have e42 : Fr.tmps[42]? = some (.bool false) := hEA.dst 16 _ 42 rfl rfl; simp [execOp, e42, go_sem]
                · exact obR_move _ rfl (want_is hEA (g := 12) (x := true) (b := true) rfl rfl rfl rfl) (by kernel_rfl) (eval_dst hEA (j := 17) rfl rfl)
                · exact obR_skip (want_is hEA (g := 18) (x := true) (b := false) rfl rfl rfl rfl) (by kernel_rfl) rfl
                · exact obR_skip (want_is hEA (g := 18) (x := true) (b := false) rfl rfl rfl rfl) (by kernel_rfl) rfl
                · exact obR_skip (want_is hEA (g := 18) (x := true) (b := false) rfl rfl rfl rfl) (by kernel_rfl) rfl
                · exact obR_skip (want_is hEA (g := 18) (x := true) (b := false) rfl rfl rfl rfl) (by kernel_rfl) rfl
                · exact obR_skip (want_is hEA (g := 18) (x := true) (b := false) rfl rfl rfl rfl) (by kernel_rfl) rfl
                · exact obR_skip (want_is hEA (g := 18) (x := true) (b := false) rfl rfl rfl rfl) (by kernel_rfl) rfl
                · exact obR_skip (want_is hEA (g := 18) (x := true) (b := false) rfl rfl rfl rfl) (by kernel_rfl) rfl
                · refine obR_val (want_is hEA (g := 12) (x := true) (b := true) rfl rfl rfl rfl) (by kernel_rfl) (fun ph w' hp hpm hw => ?_)
                  have e44 : Fr.tmps[44]? = some (.bool true) := hEA.dst 18 _ 44 rfl rfl; have e51 : Fr.tmps[51]? = some (undef) := hEA.dst 25 _ 51 rfl rfl; simp [execOp, e44, e51, go_sem]
                · refine obR_val (want_none rfl) (by kernel_rfl) (fun ph w' hp hpm hw => ?_)
                  have e38 : Fr.tmps[38]? = some (.bool true) := hEA.dst 12 _ 38 rfl rfl; have e52 : Fr.tmps[52]? = some (.bool true) := hEA.dst 26 _ 52 rfl rfl; simp [execOp, e38, e52, go_sem]
                · refine obR_val (want_none rfl) (by kernel_rfl) (fun ph w' hp hpm hw => ?_)
                  have e53 : Fr.tmps[53]? = some (.bool true) := hEA.dst 27 _ 53 rfl rfl; simp [execOp, e53, go_sem]
              · intro r w' hw
                simp only [laid, Act.put, List.setIfInBounds_toArray, List.set_cons_succ, List.set_cons_zero, List.getD_cons_succ, List.getD_cons_zero, Nat.zero_add, Nat.reduceAdd]
                go_wp2
                go_ret
                exact ⟨rfl, B.trans (hw.1.mono B.size)⟩
          · have HQ : Hid (decide (spo x = spo y) = false) := Lib.hid (decide_eq_false hxy)
            have hfq : (formO x == formO y) = false := by rw [hfe]; exact HQ.out
            clear hxy hfe
            by_cases hml : (m1, m2) ∈ lvO x
            · have HM : Hid (decide ((m1, m2) ∈ lvO x) = true) := Lib.hid (decide_eq_true hml)
              have hfv := hfw hml
              clear hml hfw
              go_wp2_with fail
              refine wp_region_results (fun r i => ([.bool true, .bool true, .slice A la ca, .string (tx (formO x)), .slice A' lb cb, .string (tx (formO y)), .bool false, .slice A la ca, .slice A' lb cb, .bool false, .bool true, .bool true, .bool true, .slice A la ca, (r 4), .agg #[.int .i64 m1, .int .i64 m2], .bool true, .bool false, .bool false, .slice A la ca, .agg #[.int .i64 m1, .int .i64 m2], (r 6), .string (tx (formO (withoutO (m1, m2) x))), .slice A la ca, .string (tx (formO x)), .bool true, .bool true, .bool true, .bool true] : List Value).getD i undef) [0, 3, 5, 9, 14, 16, 21, 22, 24] [0, 1, 1, 1, 1, 2, 3, 1, 1, 3, 4, 4, 4, 4, 4, 4, 5, 6, 6, 6, 6, 6, 7, 6, 8, 9, 9, 9, 9] (fun r q w' => (Below W2.heap.size W2 w') ∧ (4 < q → Mems w'.heap.size w' (lvO x) [(r 4)]) ∧ (6 < q → Spots w'.heap.size w' (spo (withoutO (m1, m2) x)) [(r 6)])) (by kernel_rfl) (by kernel_rfl) (fun r => ⟨⟨rfl, rfl, rfl, Nat.le_refl _, fun _ _ => rfl⟩, fun h => absurd h (Nat.not_lt_zero _), fun h => absurd h (Nat.not_lt_zero _)⟩) ?_ ?_
              · refine ObsR_of_ends (by kernel_rfl) ?_
                intro r Fr hEA
                refine ⟨?_, ?_, ?_, ?_, ?_, ?_, ?_, ?_, ?_, ?_, ?_, ?_, ?_, ?_, ?_, ?_, ?_, ?_, ?_, ?_, ?_, ?_, ?_, ?_, ?_, ?_, ?_, ?_, ?_, trivial⟩
                · refine obR_call (q := 0) (f := 9) (args := #[]) (want_none rfl) (by kernel_rfl) (fun w' => by simp [go_sem]) ?_
                  intro w' hw
                  refine (awake14_any w' (HTT.out _ (B.trans (hw.1.mono B.size)))).mono ?_
                  rintro e w2 ⟨rfl, hb⟩
                  exact ⟨_, rfl, fun r' hr hv => ⟨rfl, ⟨hw.1.trans (hb.mono hw.1.size), fun h => absurd h (by decide), fun h => absurd h (by decide)⟩⟩⟩
                · exact obR_move _ rfl (want_none rfl) (by kernel_rfl) (eval_dst hEA (j := 0) rfl rfl)
                · exact obR_move _ rfl (want_is hEA (g := 1) (x := true) (b := true) rfl rfl rfl rfl) (by kernel_rfl) (eval_out hEA (d := 0) (by kernel_rfl))
                · refine obR_call (q := 1) (f := 16) (args := #[.slice A la ca]) (want_is hEA (g := 1) (x := true) (b := true) rfl rfl rfl rfl) (by kernel_rfl) (fun w' => by have e28 : Fr.tmps[28]? = some (.slice A la ca) := hEA.dst 2 _ 28 rfl rfl; simp [e28, go_sem]) ?_
                  intro w' hw
                  refine (eFormal_any x _ w' (keeps_spots _ _ _ _ _ _ HX.out hw.1 hw.1.size) hox hhx (HTT.out _ (B.trans (hw.1.mono B.size)))).mono ?_
                  rintro e w2 ⟨rfl, hb⟩
                  exact ⟨_, rfl, fun r' hr hv => ⟨rfl, ⟨hw.1.trans (hb.mono hw.1.size), fun h => absurd h (by decide), fun h => absurd h (by decide)⟩⟩⟩
                · exact obR_move _ rfl (want_is hEA (g := 1) (x := true) (b := true) rfl rfl rfl rfl) (by kernel_rfl) (eval_out hEA (d := 1) (by kernel_rfl))
                · refine obR_call (q := 2) (f := 16) (args := #[.slice A' lb cb]) (want_is hEA (g := 1) (x := true) (b := true) rfl rfl rfl rfl) (by kernel_rfl) (fun w' => by have e30 : Fr.tmps[30]? = some (.slice A' lb cb) := hEA.dst 4 _ 30 rfl rfl; simp [e30, go_sem]) ?_
                  intro w' hw
                  refine (eFormal_any y _ w' (keeps_spots _ _ _ _ _ _ HY.out hw.1 hw.1.size) hoy hhy (HTT.out _ (B.trans (hw.1.mono B.size)))).mono ?_
                  rintro e w2 ⟨rfl, hb⟩
                  exact ⟨_, rfl, fun r' hr hv => ⟨rfl, ⟨hw.1.trans (hb.mono hw.1.size), fun h => absurd h (by decide), fun h => absurd h (by decide)⟩⟩⟩
                · refine obR_val (want_is hEA (g := 1) (x := true) (b := true) rfl rfl rfl rfl) (by kernel_rfl) (fun ph w' hp hpm hw => ?_)
                  have e29 : Fr.tmps[29]? = some (.string (tx (formO x))) := hEA.dst 3 _ 29 rfl rfl; have e31 : Fr.tmps[31]? = some (.string (tx (formO y))) := hEA.dst 5 _ 31 rfl rfl; simp [execOp, e29, e31, tx_list, hfq, go_sem]
                · exact obR_move _ rfl (want_is hEA (g := 1) (x := true) (b := true) rfl rfl rfl rfl) (by kernel_rfl) (eval_out hEA (d := 0) (by kernel_rfl))
                · exact obR_move _ rfl (want_is hEA (g := 1) (x := true) (b := true) rfl rfl rfl rfl) (by kernel_rfl) (eval_out hEA (d := 1) (by kernel_rfl))
                · refine obR_call (q := 3) (f := 24) (args := #[.slice A la ca, .slice A' lb cb]) (want_is hEA (g := 1) (x := true) (b := true) rfl rfl rfl rfl) (by kernel_rfl) (fun w' => by have e33 : Fr.tmps[33]? = some (.slice A la ca) := hEA.dst 7 _ 33 rfl rfl; have e34 : Fr.tmps[34]? = some (.slice A' lb cb) := hEA.dst 8 _ 34 rfl rfl; simp [e33, e34, go_sem]) ?_
                  intro w' hw
                  refine ((show Calls _ _ _ _ (fun e W' => e = .returned (.bool false) ∧ Below w'.heap.size w' W') from by have := sameS_any _ _ (spo x) (spo y) w' (keeps_spots _ _ _ _ _ _ HX.out hw.1 hw.1.size) (keeps_spots _ _ _ _ _ _ HY.out hw.1 hw.1.size) (by omega); rwa [HQ.out] at this)).mono ?_
                  rintro e w2 ⟨rfl, hb⟩
                  exact ⟨_, rfl, fun r' hr hv => ⟨rfl, ⟨hw.1.trans (hb.mono hw.1.size), fun h => absurd h (by decide), fun h => absurd h (by decide)⟩⟩⟩
                · refine obR_val (want_is hEA (g := 1) (x := true) (b := true) rfl rfl rfl rfl) (by kernel_rfl) (fun ph w' hp hpm hw => ?_)
                  have e32 : Fr.tmps[32]? = some (.bool false) := hEA.dst 6 _ 32 rfl rfl; have e35 : Fr.tmps[35]? = some (.bool false) := hEA.dst 9 _ 35 rfl rfl; simp [execOp, e32, e35, go_sem]
                · refine obR_val (want_none rfl) (by kernel_rfl) (fun ph w' hp hpm hw => ?_)
                  have e27 : Fr.tmps[27]? = some (.bool true) := hEA.dst 1 _ 27 rfl rfl; have e36 : Fr.tmps[36]? = some (.bool true) := hEA.dst 10 _ 36 rfl rfl; simp [execOp, e27, e36, go_sem]
                · exact obR_move _ rfl (want_none rfl) (by kernel_rfl) (eval_dst hEA (j := 11) rfl rfl)
                · exact obR_move _ rfl (want_is hEA (g := 12) (x := true) (b := true) rfl rfl rfl rfl) (by kernel_rfl) (eval_out hEA (d := 0) (by kernel_rfl))
                · refine obR_call (q := 4) (f := 22) (args := #[.slice A la ca]) (want_is hEA (g := 12) (x := true) (b := true) rfl rfl rfl rfl) (by kernel_rfl) (fun w' => by have e39 : Fr.tmps[39]? = some (.slice A la ca) := hEA.dst 13 _ 39 rfl rfl; simp [e39, go_sem]) ?_
                  intro w' hw
                  refine (refLeaves_any _ (spo x) w' (keeps_spots _ _ _ _ _ _ HX.out hw.1 hw.1.size) (by omega)).mono ?_
                  rintro e w2 ⟨v', rfl, hs, hb⟩
                  exact ⟨_, rfl, fun r' hr hv => ⟨hv, ⟨hw.1.trans (hb.mono hw.1.size), fun _ => by rw [hv]; exact hs, fun h => absurd h (by decide)⟩⟩⟩
                · refine obR_val (want_is hEA (g := 12) (x := true) (b := true) rfl rfl rfl rfl) (by kernel_rfl) (fun ph w' hp hpm hw => ?_)
                  have hc0 := (hw.1.cell (p := ⟨G1, 0, none⟩) b1.lt).trans (b1.c 0 _ rfl)
                  have hc1 := (hw.1.cell (p := ⟨G1, 1, none⟩) b1.lt).trans (b1.c 1 _ rfl)
                  have e5 : Fr.tmps[5]? = some (.pointer (some ⟨G1, 0, none⟩)) := at_out hEA (d := 5) (by kernel_rfl); simp [execOp, e5, hc0, hc1, go_sem]
                · refine obR_call (q := 5) (f := 25) (args := #[(r 4), .agg #[.int .i64 m1, .int .i64 m2]]) (want_is hEA (g := 12) (x := true) (b := true) rfl rfl rfl rfl) (by kernel_rfl) (fun w' => by have e40 : Fr.tmps[40]? = some ((r 4)) := hEA.dst 14 _ 40 rfl rfl; have e41 : Fr.tmps[41]? = some (.agg #[.int .i64 m1, .int .i64 m2]) := hEA.dst 15 _ 41 rfl rfl; simp [e40, e41, go_sem]) ?_
                  intro w' hw
                  refine ((show Calls _ _ _ _ (fun e W' => e = .returned (.bool true) ∧ Below w'.heap.size w' W') from by have := refHas_any _ (lvO x) m1 m2 w' (hw.2.1 (by decide)); rwa [HM.out] at this)).mono ?_
                  rintro e w2 ⟨rfl, hb⟩
                  exact ⟨_, rfl, fun r' hr hv => ⟨rfl, ⟨hw.1.trans (hb.mono hw.1.size), fun _ => by rw [hr 4 (by decide)]; exact keeps_mems _ _ _ _ _ _ (hw.2.1 (by decide)) hb hb.size, fun h => absurd h (by decide)⟩⟩⟩
                · refine obR_val (want_is hEA (g := 12) (x := true) (b := true) rfl rfl rfl rfl) (by kernel_rfl) (fun ph w' hp hpm hw => ?_)
                  have e42 : Fr.tmps[42]? = some (.bool true) := hEA.dst 16 _ 42 rfl rfl; simp [execOp, e42, go_sem]
                · exact obR_move _ rfl (want_is hEA (g := 12) (x := true) (b := true) rfl rfl rfl rfl) (by kernel_rfl) (eval_dst hEA (j := 17) rfl rfl)
                · exact obR_move _ rfl (want_is hEA (g := 18) (x := false) (b := false) rfl rfl rfl rfl) (by kernel_rfl) (eval_out hEA (d := 0) (by kernel_rfl))
                · refine obR_val (want_is hEA (g := 18) (x := false) (b := false) rfl rfl rfl rfl) (by kernel_rfl) (fun ph w' hp hpm hw => ?_)
                  have hc0 := (hw.1.cell (p := ⟨G1, 0, none⟩) b1.lt).trans (b1.c 0 _ rfl)
                  have hc1 := (hw.1.cell (p := ⟨G1, 1, none⟩) b1.lt).trans (b1.c 1 _ rfl)
                  have e5 : Fr.tmps[5]? = some (.pointer (some ⟨G1, 0, none⟩)) := at_out hEA (d := 5) (by kernel_rfl); simp [execOp, e5, hc0, hc1, go_sem]
                · refine obR_call (q := 6) (f := 26) (args := #[.slice A la ca, .agg #[.int .i64 m1, .int .i64 m2]]) (want_is hEA (g := 18) (x := false) (b := false) rfl rfl rfl rfl) (by kernel_rfl) (fun w' => by have e45 : Fr.tmps[45]? = some (.slice A la ca) := hEA.dst 19 _ 45 rfl rfl; have e46 : Fr.tmps[46]? = some (.agg #[.int .i64 m1, .int .i64 m2]) := hEA.dst 20 _ 46 rfl rfl; simp [e45, e46, go_sem]) ?_
                  intro w' hw
                  refine (refWithout_any _ x m1 m2 w' (keeps_spots _ _ _ _ _ _ HX.out hw.1 hw.1.size) hxn).mono ?_
                  rintro e w2 ⟨v', rfl, hs, hb⟩
                  exact ⟨_, rfl, fun r' hr hv => ⟨hv, ⟨hw.1.trans (hb.mono hw.1.size), fun _ => by rw [hr 4 (by decide)]; exact keeps_mems _ _ _ _ _ _ (hw.2.1 (by decide)) hb hb.size, fun _ => by rw [hv]; exact hs⟩⟩⟩
                · refine obR_call (q := 7) (f := 16) (args := #[(r 6)]) (want_is hEA (g := 18) (x := false) (b := false) rfl rfl rfl rfl) (by kernel_rfl) (fun w' => by have e47 : Fr.tmps[47]? = some ((r 6)) := hEA.dst 21 _ 47 rfl rfl; simp [e47, go_sem]) ?_
                  intro w' hw
                  refine (eFormal_any (withoutO (m1, m2) x) _ w' (hw.2.2 (by decide)) hwo hwh (HTT.out _ (B.trans (hw.1.mono B.size)))).mono ?_
                  rintro e w2 ⟨rfl, hb⟩
                  exact ⟨_, rfl, fun r' hr hv => ⟨rfl, ⟨hw.1.trans (hb.mono hw.1.size), fun _ => by rw [hr 4 (by decide)]; exact keeps_mems _ _ _ _ _ _ (hw.2.1 (by decide)) hb hb.size, fun _ => by rw [hr 6 (by decide)]; exact keeps_spots _ _ _ _ _ _ (hw.2.2 (by decide)) hb hb.size⟩⟩⟩
                · exact obR_move _ rfl (want_is hEA (g := 18) (x := false) (b := false) rfl rfl rfl rfl) (by kernel_rfl) (eval_out hEA (d := 0) (by kernel_rfl))
                · refine obR_call (q := 8) (f := 16) (args := #[.slice A la ca]) (want_is hEA (g := 18) (x := false) (b := false) rfl rfl rfl rfl) (by kernel_rfl) (fun w' => by have e49 : Fr.tmps[49]? = some (.slice A la ca) := hEA.dst 23 _ 49 rfl rfl; simp [e49, go_sem]) ?_
                  intro w' hw
                  refine (eFormal_any x _ w' (keeps_spots _ _ _ _ _ _ HX.out hw.1 hw.1.size) hox hhx (HTT.out _ (B.trans (hw.1.mono B.size)))).mono ?_
                  rintro e w2 ⟨rfl, hb⟩
                  exact ⟨_, rfl, fun r' hr hv => ⟨rfl, ⟨hw.1.trans (hb.mono hw.1.size), fun _ => by rw [hr 4 (by decide)]; exact keeps_mems _ _ _ _ _ _ (hw.2.1 (by decide)) hb hb.size, fun _ => by rw [hr 6 (by decide)]; exact keeps_spots _ _ _ _ _ _ (hw.2.2 (by decide)) hb hb.size⟩⟩⟩
                · refine obR_val (want_is hEA (g := 18) (x := false) (b := false) rfl rfl rfl rfl) (by kernel_rfl) (fun ph w' hp hpm hw => ?_)
                  have e48 : Fr.tmps[48]? = some (.string (tx (formO (withoutO (m1, m2) x)))) := hEA.dst 22 _ 48 rfl rfl; have e50 : Fr.tmps[50]? = some (.string (tx (formO x))) := hEA.dst 24 _ 50 rfl rfl; simp [execOp, e48, e50, tx_list, hfv, go_sem]
                · refine obR_val (want_is hEA (g := 12) (x := true) (b := true) rfl rfl rfl rfl) (by kernel_rfl) (fun ph w' hp hpm hw => ?_)
                  have e44 : Fr.tmps[44]? = some (.bool false) := hEA.dst 18 _ 44 rfl rfl; have e51 : Fr.tmps[51]? = some (.bool true) := hEA.dst 25 _ 51 rfl rfl; simp [execOp, e44, e51, go_sem]
                · refine obR_val (want_none rfl) (by kernel_rfl) (fun ph w' hp hpm hw => ?_)
                  have e38 : Fr.tmps[38]? = some (.bool true) := hEA.dst 12 _ 38 rfl rfl; have e52 : Fr.tmps[52]? = some (.bool true) := hEA.dst 26 _ 52 rfl rfl; simp [execOp, e38, e52, go_sem]
                · refine obR_val (want_none rfl) (by kernel_rfl) (fun ph w' hp hpm hw => ?_)
                  have e53 : Fr.tmps[53]? = some (.bool true) := hEA.dst 27 _ 53 rfl rfl; simp [execOp, e53, go_sem]
              · intro r w' hw
                simp only [laid, Act.put, List.setIfInBounds_toArray, List.set_cons_succ, List.set_cons_zero, List.getD_cons_succ, List.getD_cons_zero, Nat.zero_add, Nat.reduceAdd]
                go_wp2
                go_ret
                exact ⟨rfl, B.trans (hw.1.mono B.size)⟩
            · have HM : Hid (decide ((m1, m2) ∈ lvO x) = false) := Lib.hid (decide_eq_false hml)
              clear hml hfw
              go_wp2_with fail
              refine wp_region_results (fun r i => ([.bool true, .bool true, .slice A la ca, .string (tx (formO x)), .slice A' lb cb, .string (tx (formO y)), .bool false, .slice A la ca, .slice A' lb cb, .bool false, .bool true, .bool true, .bool true, .slice A la ca, (r 4), .agg #[.int .i64 m1, .int .i64 m2], .bool false, .bool true, .bool true, undef, undef, undef, undef, undef, undef, undef, .bool true, .bool true, .bool true] : List Value).getD i undef) [0, 3, 5, 9, 14, 16] [0, 1, 1, 1, 1, 2, 3, 1, 1, 3, 4, 4, 4, 4, 4, 4, 5, 6, 6, 6, 6, 6, 6, 6, 6, 6, 6, 6, 6] (fun r q w' => (Below W2.heap.size W2 w') ∧ (4 < q → Mems w'.heap.size w' (lvO x) [(r 4)])) (by kernel_rfl) (by kernel_rfl) (fun r => ⟨⟨rfl, rfl, rfl, Nat.le_refl _, fun _ _ => rfl⟩, fun h => absurd h (Nat.not_lt_zero _)⟩) ?_ ?_
              · refine ObsR_of_ends (by kernel_rfl) ?_
                intro r Fr hEA
                refine ⟨?_, ?_, ?_, ?_, ?_, ?_, ?_, ?_, ?_, ?_, ?_, ?_, ?_, ?_, ?_, ?_, ?_, ?_, ?_, ?_, ?_, ?_, ?_, ?_, ?_, ?_, ?_, ?_, ?_, trivial⟩
                · refine obR_call (q := 0) (f := 9) (args := #[]) (want_none rfl) (by kernel_rfl) (fun w' => by simp [go_sem]) ?_
                  intro w' hw
                  refine (awake14_any w' (HTT.out _ (B.trans (hw.1.mono B.size)))).mono ?_
                  rintro e w2 ⟨rfl, hb⟩
                  exact ⟨_, rfl, fun r' hr hv => ⟨rfl, ⟨hw.1.trans (hb.mono hw.1.size), fun h => absurd h (by decide)⟩⟩⟩
                · exact obR_move _ rfl (want_none rfl) (by kernel_rfl) (eval_dst hEA (j := 0) rfl rfl)
                · exact obR_move _ rfl (want_is hEA (g := 1) (x := true) (b := true) rfl rfl rfl rfl) (by kernel_rfl) (eval_out hEA (d := 0) (by kernel_rfl))
                · refine obR_call (q := 1) (f := 16) (args := #[.slice A la ca]) (want_is hEA (g := 1) (x := true) (b := true) rfl rfl rfl rfl) (by kernel_rfl) (fun w' => by have e28 : Fr.tmps[28]? = some (.slice A la ca) := hEA.dst 2 _ 28 rfl rfl; simp [e28, go_sem]) ?_
                  intro w' hw
                  refine (eFormal_any x _ w' (keeps_spots _ _ _ _ _ _ HX.out hw.1 hw.1.size) hox hhx (HTT.out _ (B.trans (hw.1.mono B.size)))).mono ?_
                  rintro e w2 ⟨rfl, hb⟩
                  exact ⟨_, rfl, fun r' hr hv => ⟨rfl, ⟨hw.1.trans (hb.mono hw.1.size), fun h => absurd h (by decide)⟩⟩⟩
                · exact obR_move _ rfl (want_is hEA (g := 1) (x := true) (b := true) rfl rfl rfl rfl) (by kernel_rfl) (eval_out hEA (d := 1) (by kernel_rfl))
                · refine obR_call (q := 2) (f := 16) (args := #[.slice A' lb cb]) (want_is hEA (g := 1) (x := true) (b := true) rfl rfl rfl rfl) (by kernel_rfl) (fun w' => by have e30 : Fr.tmps[30]? = some (.slice A' lb cb) := hEA.dst 4 _ 30 rfl rfl; simp [e30, go_sem]) ?_
                  intro w' hw
                  refine (eFormal_any y _ w' (keeps_spots _ _ _ _ _ _ HY.out hw.1 hw.1.size) hoy hhy (HTT.out _ (B.trans (hw.1.mono B.size)))).mono ?_
                  rintro e w2 ⟨rfl, hb⟩
                  exact ⟨_, rfl, fun r' hr hv => ⟨rfl, ⟨hw.1.trans (hb.mono hw.1.size), fun h => absurd h (by decide)⟩⟩⟩
                · refine obR_val (want_is hEA (g := 1) (x := true) (b := true) rfl rfl rfl rfl) (by kernel_rfl) (fun ph w' hp hpm hw => ?_)
                  have e29 : Fr.tmps[29]? = some (.string (tx (formO x))) := hEA.dst 3 _ 29 rfl rfl; have e31 : Fr.tmps[31]? = some (.string (tx (formO y))) := hEA.dst 5 _ 31 rfl rfl; simp [execOp, e29, e31, tx_list, hfq, go_sem]
                · exact obR_move _ rfl (want_is hEA (g := 1) (x := true) (b := true) rfl rfl rfl rfl) (by kernel_rfl) (eval_out hEA (d := 0) (by kernel_rfl))
                · exact obR_move _ rfl (want_is hEA (g := 1) (x := true) (b := true) rfl rfl rfl rfl) (by kernel_rfl) (eval_out hEA (d := 1) (by kernel_rfl))
                · refine obR_call (q := 3) (f := 24) (args := #[.slice A la ca, .slice A' lb cb]) (want_is hEA (g := 1) (x := true) (b := true) rfl rfl rfl rfl) (by kernel_rfl) (fun w' => by have e33 : Fr.tmps[33]? = some (.slice A la ca) := hEA.dst 7 _ 33 rfl rfl; have e34 : Fr.tmps[34]? = some (.slice A' lb cb) := hEA.dst 8 _ 34 rfl rfl; simp [e33, e34, go_sem]) ?_
                  intro w' hw
                  refine ((show Calls _ _ _ _ (fun e W' => e = .returned (.bool false) ∧ Below w'.heap.size w' W') from by have := sameS_any _ _ (spo x) (spo y) w' (keeps_spots _ _ _ _ _ _ HX.out hw.1 hw.1.size) (keeps_spots _ _ _ _ _ _ HY.out hw.1 hw.1.size) (by omega); rwa [HQ.out] at this)).mono ?_
                  rintro e w2 ⟨rfl, hb⟩
                  exact ⟨_, rfl, fun r' hr hv => ⟨rfl, ⟨hw.1.trans (hb.mono hw.1.size), fun h => absurd h (by decide)⟩⟩⟩
                · refine obR_val (want_is hEA (g := 1) (x := true) (b := true) rfl rfl rfl rfl) (by kernel_rfl) (fun ph w' hp hpm hw => ?_)
                  have e32 : Fr.tmps[32]? = some (.bool false) := hEA.dst 6 _ 32 rfl rfl; have e35 : Fr.tmps[35]? = some (.bool false) := hEA.dst 9 _ 35 rfl rfl; simp [execOp, e32, e35, go_sem]
                · refine obR_val (want_none rfl) (by kernel_rfl) (fun ph w' hp hpm hw => ?_)
                  have e27 : Fr.tmps[27]? = some (.bool true) := hEA.dst 1 _ 27 rfl rfl; have e36 : Fr.tmps[36]? = some (.bool true) := hEA.dst 10 _ 36 rfl rfl; simp [execOp, e27, e36, go_sem]
                · exact obR_move _ rfl (want_none rfl) (by kernel_rfl) (eval_dst hEA (j := 11) rfl rfl)
                · exact obR_move _ rfl (want_is hEA (g := 12) (x := true) (b := true) rfl rfl rfl rfl) (by kernel_rfl) (eval_out hEA (d := 0) (by kernel_rfl))
                · refine obR_call (q := 4) (f := 22) (args := #[.slice A la ca]) (want_is hEA (g := 12) (x := true) (b := true) rfl rfl rfl rfl) (by kernel_rfl) (fun w' => by have e39 : Fr.tmps[39]? = some (.slice A la ca) := hEA.dst 13 _ 39 rfl rfl; simp [e39, go_sem]) ?_
                  intro w' hw
                  refine (refLeaves_any _ (spo x) w' (keeps_spots _ _ _ _ _ _ HX.out hw.1 hw.1.size) (by omega)).mono ?_
                  rintro e w2 ⟨v', rfl, hs, hb⟩
                  exact ⟨_, rfl, fun r' hr hv => ⟨hv, ⟨hw.1.trans (hb.mono hw.1.size), fun _ => by rw [hv]; exact hs⟩⟩⟩
                · refine obR_val (want_is hEA (g := 12) (x := true) (b := true) rfl rfl rfl rfl) (by kernel_rfl) (fun ph w' hp hpm hw => ?_)
                  have hc0 := (hw.1.cell (p := ⟨G1, 0, none⟩) b1.lt).trans (b1.c 0 _ rfl)
                  have hc1 := (hw.1.cell (p := ⟨G1, 1, none⟩) b1.lt).trans (b1.c 1 _ rfl)
                  have e5 : Fr.tmps[5]? = some (.pointer (some ⟨G1, 0, none⟩)) := at_out hEA (d := 5) (by kernel_rfl); simp [execOp, e5, hc0, hc1, go_sem]
                · refine obR_call (q := 5) (f := 25) (args := #[(r 4), .agg #[.int .i64 m1, .int .i64 m2]]) (want_is hEA (g := 12) (x := true) (b := true) rfl rfl rfl rfl) (by kernel_rfl) (fun w' => by have e40 : Fr.tmps[40]? = some ((r 4)) := hEA.dst 14 _ 40 rfl rfl; have e41 : Fr.tmps[41]? = some (.agg #[.int .i64 m1, .int .i64 m2]) := hEA.dst 15 _ 41 rfl rfl; simp [e40, e41, go_sem]) ?_
                  intro w' hw
                  refine ((show Calls _ _ _ _ (fun e W' => e = .returned (.bool false) ∧ Below w'.heap.size w' W') from by have := refHas_any _ (lvO x) m1 m2 w' (hw.2 (by decide)); rwa [HM.out] at this)).mono ?_
                  rintro e w2 ⟨rfl, hb⟩
                  exact ⟨_, rfl, fun r' hr hv => ⟨rfl, ⟨hw.1.trans (hb.mono hw.1.size), fun _ => by rw [hr 4 (by decide)]; exact keeps_mems _ _ _ _ _ _ (hw.2 (by decide)) hb hb.size⟩⟩⟩
                · refine obR_val (want_is hEA (g := 12) (x := true) (b := true) rfl rfl rfl rfl) (by kernel_rfl) (fun ph w' hp hpm hw => ?_)
                  have e42 : Fr.tmps[42]? = some (.bool false) := hEA.dst 16 _ 42 rfl rfl; simp [execOp, e42, go_sem]
                · exact obR_move _ rfl (want_is hEA (g := 12) (x := true) (b := true) rfl rfl rfl rfl) (by kernel_rfl) (eval_dst hEA (j := 17) rfl rfl)
                · exact obR_skip (want_is hEA (g := 18) (x := true) (b := false) rfl rfl rfl rfl) (by kernel_rfl) rfl
                · exact obR_skip (want_is hEA (g := 18) (x := true) (b := false) rfl rfl rfl rfl) (by kernel_rfl) rfl
                · exact obR_skip (want_is hEA (g := 18) (x := true) (b := false) rfl rfl rfl rfl) (by kernel_rfl) rfl
                · exact obR_skip (want_is hEA (g := 18) (x := true) (b := false) rfl rfl rfl rfl) (by kernel_rfl) rfl
                · exact obR_skip (want_is hEA (g := 18) (x := true) (b := false) rfl rfl rfl rfl) (by kernel_rfl) rfl
                · exact obR_skip (want_is hEA (g := 18) (x := true) (b := false) rfl rfl rfl rfl) (by kernel_rfl) rfl
                · exact obR_skip (want_is hEA (g := 18) (x := true) (b := false) rfl rfl rfl rfl) (by kernel_rfl) rfl
                · refine obR_val (want_is hEA (g := 12) (x := true) (b := true) rfl rfl rfl rfl) (by kernel_rfl) (fun ph w' hp hpm hw => ?_)
                  have e44 : Fr.tmps[44]? = some (.bool true) := hEA.dst 18 _ 44 rfl rfl; have e51 : Fr.tmps[51]? = some (undef) := hEA.dst 25 _ 51 rfl rfl; simp [execOp, e44, e51, go_sem]
                · refine obR_val (want_none rfl) (by kernel_rfl) (fun ph w' hp hpm hw => ?_)
                  have e38 : Fr.tmps[38]? = some (.bool true) := hEA.dst 12 _ 38 rfl rfl; have e52 : Fr.tmps[52]? = some (.bool true) := hEA.dst 26 _ 52 rfl rfl; simp [execOp, e38, e52, go_sem]
                · refine obR_val (want_none rfl) (by kernel_rfl) (fun ph w' hp hpm hw => ?_)
                  have e53 : Fr.tmps[53]? = some (.bool true) := hEA.dst 27 _ 53 rfl rfl; simp [execOp, e53, go_sem]
              · intro r w' hw
                simp only [laid, Act.put, List.setIfInBounds_toArray, List.set_cons_succ, List.set_cons_zero, List.getD_cons_succ, List.getD_cons_zero, Nat.zero_add, Nat.reduceAdd]
                go_wp2
                go_ret
                exact ⟨rfl, B.trans (hw.1.mono B.size)⟩

end Go.Proofs.YtjnefacdindamaaGreatDoor
