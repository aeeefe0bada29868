/- lodgelaw09.TreeTells answers true, whatever slice of spots and whatever int come in, and leaves memory below as it was. No condition. -/
import Derived.Test.YtgnebmandifhiaaAwake9
namespace Go.Proofs.Ytgnebmandifhiaa
open Go Go.RowKit
set_option linter.unusedVariables false

theorem halves_same {xs : List Sp} (h : okT xs = true) : ∃ (l1 l2 : List Sp) (q : Bool), l1.length ≤ 1000000 ∧ l2.length ≤ 1000000 ∧
    (∀ v w, Spots w.heap.size w xs [v] → Calls Try.prog 16 #[v] w fun e W' => ∃ v1 v2, e = .returned (.tuple #[v1, v2, .bool q]) ∧ Spots W'.heap.size W' l1 [v1] ∧ Spots W'.heap.size W' l2 [v2] ∧ Below w.heap.size w W') ∧
    (∀ v w, Spots w.heap.size w xs [v] → Calls Try.prog 17 #[v] w fun e W' => ∃ v1 v2, e = .returned (.tuple #[v1, v2, .bool q]) ∧ Spots W'.heap.size W' l1 [v1] ∧ Spots W'.heap.size W' l2 [v2] ∧ Below w.heap.size w W') := by
  have hl := (okT_parts h).1
  by_cases hp : xs = []
  · subst hp
    refine ⟨[], [], false, by decide, by decide, fun v w hs => ?_, fun v w hs => ?_⟩
    · refine (halves_nil v w hs).mono ?_
      rintro e W ⟨rfl, B⟩
      exact ⟨_, _, rfl, spots_nil W, spots_nil W, B⟩
    · refine (refHalves_few [] v w hs (by decide)).mono ?_
      rintro e W ⟨rfl, rfl⟩
      exact ⟨_, _, rfl, spots_nil w, spots_nil w, Below.refl _ _⟩
  · obtain ⟨t, rfl⟩ := okT_flat h hp
    cases t with
    | leaf a b =>
      refine ⟨[], [], false, by decide, by decide, fun v w hs => ?_, fun v w hs => ?_⟩
      · refine (halves_leaf a b v w hs).mono ?_
        rintro e W ⟨rfl, B⟩
        exact ⟨_, _, rfl, spots_nil W, spots_nil W, B⟩
      · refine (refHalves_few (flat (.leaf a b)) v w hs (by simp [flat])).mono ?_
        rintro e W ⟨rfl, rfl⟩
        exact ⟨_, _, rfl, spots_nil w, spots_nil w, Below.refl _ _⟩
    | inner a b l r =>
      have e := flat_inner_len a b l r
      exact ⟨flat l, flat r, true, by omega, by omega, fun v w hs => halves_inner a b l r v w hs (by omega), fun v w hs => refHalves_inner a b l r v w hs (by omega)⟩
theorem height_same {xs : List Sp} (h : okT xs = true) : ∃ n : Int,
    (∀ v w, Spots w.heap.size w xs [v] → Calls Try.prog 19 #[v] w fun e W' => e = .returned (.int .i64 n) ∧ Below w.heap.size w W') ∧
    (∀ v w, Spots w.heap.size w xs [v] → Calls Try.prog 20 #[v] w fun e W' => e = .returned (.int .i64 n) ∧ Below w.heap.size w W') := by
  have hl := (okT_parts h).1
  by_cases hp : xs = []
  · subst hp
    refine ⟨-1, fun v w hs => (height_nil v w hs).mono ?_, fun v w hs => refHeight_nil v w hs⟩
    rintro e W ⟨rfl, rfl⟩
    exact ⟨rfl, Below.refl _ _⟩
  · obtain ⟨t, rfl⟩ := okT_flat h hp
    exact ⟨ht t, fun v w hs => height_flat t v w hs (by omega), fun v w hs => refHeight_flat t v w hs (by omega)⟩
set_option maxRecDepth 100000 in
set_option maxHeartbeats 8000000 in
theorem treeTells_walk (A : Option Addr) (la ca : Nat) (p : Int) (w : World) (h : ∃ xs, Spots w.heap.size w xs [.slice A la ca]) (wp : (Lit.int .i64 p).wf = true) :
    Calls Try.prog 3 #[.slice A la ca, .int .i64 p] w fun e w' => e = .returned (.bool true) ∧ Below w.heap.size w w' := by
  obtain ⟨xs, hx⟩ := h
  have HX := Lib.hid hx
  obtain ⟨_, _, e, hlc, hcm, _⟩ := spots_at hx
  simp only [Value.slice.injEq] at e
  obtain ⟨rfl, hla, rfl⟩ := e
  have hc1 : ca ≤ 9223372036854775807 := Nat.le_trans hcm (by decide)
  subst hla
  clear hx hcm wp
  by_cases h1 : 200 < xs.length
  · have hd : decide (200 < xs.length) = true := decide_eq_true h1
    have hd2 : decide ((200 : Int) < (xs.length : Int)) = true := decide_eq_true (by omega)
    go_enter Try.func3, Try.ntmps3
    go_wp2_with fail
    refine (awake9_any w).mono ?_
    rintro e W9 ⟨rfl, B9⟩
    go_wp2
    go_ret
    exact ⟨rfl, B9⟩

  · have hd : decide (200 < xs.length) = false := decide_eq_false h1
    have hd2 : decide ((200 : Int) < (xs.length : Int)) = false := decide_eq_false (by omega)
    have hn : xs.length ≤ 1000000 := by omega
    have hlv : (lv xs).length ≤ 1000000 := by have := lv_length_le xs; omega
    go_enter Try.func3, Try.ntmps3
    go_wp2_with fail
    refine (right_any _ xs w HX.out hn).mono ?_
    rintro e W1 ⟨rfl, B⟩
    replace HX := Lib.hid (keeps_spots _ _ _ _ _ _ HX.out B B.size)
    cases hox : okT xs
    · go_wp2_with fail
      refine (refRight_any _ xs W1 HX.out hn).mono ?_
      rintro e W2 ⟨rfl, hb⟩
      replace HX := Lib.hid (keeps_spots _ _ _ _ _ _ HX.out hb hb.size)
      replace B := B.trans (hb.mono B.size)
      clear hb
      rw [hox]
      go_wp2_with fail
      refine (end_any _ xs p W2 HX.out hn).mono ?_
      rintro e W3 ⟨rfl, hb⟩
      replace HX := Lib.hid (keeps_spots _ _ _ _ _ _ HX.out hb hb.size)
      replace B := B.trans (hb.mono B.size)
      clear hb
      generalize hep : endI xs p = z at *
      have HEP := Lib.hid hep
      clear hep
      go_wp2_with fail
      refine (Calls.mono (R := fun E W' => E = .returned (.int .i64 z) ∧ W3 = W') (by have := refEnd_any _ xs p W3 HX.out hn; rw [HEP.out] at this; exact this) ?_)
      rintro e W4 ⟨rfl, rfl⟩
      go_wp2_with fail
      refine (leaves_any _ xs W3 HX.out hn).mono ?_
      rintro e W4 ⟨vm, rfl, hm, hb⟩
      replace HX := Lib.hid (keeps_spots _ _ _ _ _ _ HX.out hb hb.size)
      replace B := B.trans (hb.mono B.size)
      clear hb
      have HM := Lib.hid hm
      clear hm
      go_wp2_with fail
      refine (refLeaves_any _ xs W4 HX.out hn).mono ?_
      rintro e W5 ⟨vn, rfl, hm, hb⟩
      replace HX := Lib.hid (keeps_spots _ _ _ _ _ _ HX.out hb hb.size)
      replace HM := Lib.hid (keeps_mems _ _ _ _ _ _ HM.out hb hb.size)
      replace B := B.trans (hb.mono B.size)
      clear hb
      have HN := Lib.hid hm
      clear hm
      go_wp2_with fail
      refine (sameM_any _ _ (lv xs) (lv xs) W5 HM.out HN.out hlv).mono ?_
      rintro e W6 ⟨rfl, hb⟩
      replace HX := Lib.hid (keeps_spots _ _ _ _ _ _ HX.out hb hb.size)
      replace HM := Lib.hid (keeps_mems _ _ _ _ _ _ HM.out hb hb.size)
      replace HN := Lib.hid (keeps_mems _ _ _ _ _ _ HN.out hb hb.size)
      replace B := B.trans (hb.mono B.size)
      clear hb
      rw [show decide (lv xs = lv xs) = true from decide_eq_true rfl]
      clear HM HN

      go_wp2_with fail
      refine (awake9_any W6).mono ?_
      rintro e W9 ⟨rfl, B9⟩
      go_wp2
      go_ret
      exact ⟨rfl, B.trans (B9.mono B.size)⟩

    · obtain ⟨l1, l2, q, hl1, hl2, hh⟩ := halves_same hox
      have HH := Lib.hid hh
      obtain ⟨ht, hht⟩ := height_same hox
      have HT := Lib.hid hht
      clear hh hht
      go_wp2_with fail
      refine (refRight_any _ xs W1 HX.out hn).mono ?_
      rintro e W2 ⟨rfl, hb⟩
      replace HX := Lib.hid (keeps_spots _ _ _ _ _ _ HX.out hb hb.size)
      replace B := B.trans (hb.mono B.size)
      clear hb
      rw [hox]
      go_wp2_with fail
      refine (end_any _ xs p W2 HX.out hn).mono ?_
      rintro e W3 ⟨rfl, hb⟩
      replace HX := Lib.hid (keeps_spots _ _ _ _ _ _ HX.out hb hb.size)
      replace B := B.trans (hb.mono B.size)
      clear hb
      generalize hep : endI xs p = z at *
      have HEP := Lib.hid hep
      clear hep
      go_wp2_with fail
      refine (Calls.mono (R := fun E W' => E = .returned (.int .i64 z) ∧ W3 = W') (by have := refEnd_any _ xs p W3 HX.out hn; rw [HEP.out] at this; exact this) ?_)
      rintro e W4 ⟨rfl, rfl⟩
      go_wp2_with fail
      refine (leaves_any _ xs W3 HX.out hn).mono ?_
      rintro e W4 ⟨vm, rfl, hm, hb⟩
      replace HX := Lib.hid (keeps_spots _ _ _ _ _ _ HX.out hb hb.size)
      replace B := B.trans (hb.mono B.size)
      clear hb
      have HM := Lib.hid hm
      clear hm
      go_wp2_with fail
      refine (refLeaves_any _ xs W4 HX.out hn).mono ?_
      rintro e W5 ⟨vn, rfl, hm, hb⟩
      replace HX := Lib.hid (keeps_spots _ _ _ _ _ _ HX.out hb hb.size)
      replace HM := Lib.hid (keeps_mems _ _ _ _ _ _ HM.out hb hb.size)
      replace B := B.trans (hb.mono B.size)
      clear hb
      have HN := Lib.hid hm
      clear hm
      go_wp2_with fail
      refine (sameM_any _ _ (lv xs) (lv xs) W5 HM.out HN.out hlv).mono ?_
      rintro e W6 ⟨rfl, hb⟩
      replace HX := Lib.hid (keeps_spots _ _ _ _ _ _ HX.out hb hb.size)
      replace HM := Lib.hid (keeps_mems _ _ _ _ _ _ HM.out hb hb.size)
      replace HN := Lib.hid (keeps_mems _ _ _ _ _ _ HN.out hb hb.size)
      replace B := B.trans (hb.mono B.size)
      clear hb
      rw [show decide (lv xs = lv xs) = true from decide_eq_true rfl]
      clear HM HN

      clear hox HEP
      go_wp2_with fail
      refine (HH.out.1 _ W6 HX.out).mono ?_
      rintro e W7 ⟨va, vb, rfl, ha, hb2, hb⟩
      replace HX := Lib.hid (keeps_spots _ _ _ _ _ _ HX.out hb hb.size)
      replace B := B.trans (hb.mono B.size)
      clear hb
      have HA := Lib.hid ha
      clear ha
      have HB := Lib.hid hb2
      clear hb2
      go_wp2_with fail
      refine (HH.out.2 _ W7 HX.out).mono ?_
      rintro e W8 ⟨vc, vd, rfl, hc, hd2, hb⟩
      replace HX := Lib.hid (keeps_spots _ _ _ _ _ _ HX.out hb hb.size)
      replace HA := Lib.hid (keeps_spots _ _ _ _ _ _ HA.out hb hb.size)
      replace HB := Lib.hid (keeps_spots _ _ _ _ _ _ HB.out hb hb.size)
      replace B := B.trans (hb.mono B.size)
      clear hb
      have HC := Lib.hid hc
      clear hc
      have HD := Lib.hid hd2
      clear hd2
      go_wp2_with fail
      refine (awake9_any W8).mono ?_
      rintro e W9 ⟨rfl, hb⟩
      replace HX := Lib.hid (keeps_spots _ _ _ _ _ _ HX.out hb hb.size)
      replace HA := Lib.hid (keeps_spots _ _ _ _ _ _ HA.out hb hb.size)
      replace HB := Lib.hid (keeps_spots _ _ _ _ _ _ HB.out hb hb.size)
      replace HC := Lib.hid (keeps_spots _ _ _ _ _ _ HC.out hb hb.size)
      replace HD := Lib.hid (keeps_spots _ _ _ _ _ _ HD.out hb hb.size)
      replace B := B.trans (hb.mono B.size)
      clear hb
      go_wp2_with fail
      refine (sameS_any _ _ l1 l1 W9 HA.out HC.out hl1).mono ?_
      rintro e W10 ⟨rfl, hb⟩
      replace HX := Lib.hid (keeps_spots _ _ _ _ _ _ HX.out hb hb.size)
      replace HA := Lib.hid (keeps_spots _ _ _ _ _ _ HA.out hb hb.size)
      replace HB := Lib.hid (keeps_spots _ _ _ _ _ _ HB.out hb hb.size)
      replace HC := Lib.hid (keeps_spots _ _ _ _ _ _ HC.out hb hb.size)
      replace HD := Lib.hid (keeps_spots _ _ _ _ _ _ HD.out hb hb.size)
      replace B := B.trans (hb.mono B.size)
      clear hb
      rw [show decide (l1 = l1) = true from decide_eq_true rfl]
      go_wp2_with fail
      refine (sameS_any _ _ l2 l2 W10 HB.out HD.out hl2).mono ?_
      rintro e W11 ⟨rfl, hb⟩
      replace HX := Lib.hid (keeps_spots _ _ _ _ _ _ HX.out hb hb.size)
      replace HA := Lib.hid (keeps_spots _ _ _ _ _ _ HA.out hb hb.size)
      replace HB := Lib.hid (keeps_spots _ _ _ _ _ _ HB.out hb hb.size)
      replace HC := Lib.hid (keeps_spots _ _ _ _ _ _ HC.out hb hb.size)
      replace HD := Lib.hid (keeps_spots _ _ _ _ _ _ HD.out hb hb.size)
      replace B := B.trans (hb.mono B.size)
      clear hb
      rw [show decide (l2 = l2) = true from decide_eq_true rfl]
      clear HA HB HC HD
      go_wp2_with fail
      refine (HT.out.1 _ W11 HX.out).mono ?_
      rintro e W12 ⟨rfl, hb⟩
      replace HX := Lib.hid (keeps_spots _ _ _ _ _ _ HX.out hb hb.size)
      replace B := B.trans (hb.mono B.size)
      clear hb
      go_wp2_with fail
      refine (HT.out.2 _ W12 HX.out).mono ?_
      rintro e W13 ⟨rfl, hb⟩
      replace HX := Lib.hid (keeps_spots _ _ _ _ _ _ HX.out hb hb.size)
      replace B := B.trans (hb.mono B.size)
      clear hb
      go_wp2_with fail
      refine (printT_any _ xs W13 HX.out hn).mono ?_
      rintro e W14 ⟨rfl, hb⟩
      replace HX := Lib.hid (keeps_spots _ _ _ _ _ _ HX.out hb hb.size)
      replace B := B.trans (hb.mono B.size)
      clear hb
      go_wp2_with fail
      refine (refPrintT_any _ xs W14 HX.out hn).mono ?_
      rintro e W15 ⟨rfl, hb⟩
      replace HX := Lib.hid (keeps_spots _ _ _ _ _ _ HX.out hb hb.size)
      replace B := B.trans (hb.mono B.size)
      clear hb
      go_wp2
      go_ret
      exact ⟨rfl, B⟩


end Go.Proofs.Ytgnebmandifhiaa
