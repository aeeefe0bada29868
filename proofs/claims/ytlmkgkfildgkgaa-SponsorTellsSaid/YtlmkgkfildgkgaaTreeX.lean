import Derived.Test.YtlmkgkfildgkgaaTreeK
/- Halves and heights of trees; the document's. Condition: the slice reads as a tree's spots, of at most a million. -/
namespace Go.Proofs.Ytlmkgkfildgkgaa
open Go Go.RowKit
set_option linter.unusedVariables false

set_option maxRecDepth 100000 in
theorem refHalves_few (xs : List Sp) (v : Value) (w : World) (h : Spots w.heap.size w xs [v]) (hl : xs.length < 3) :
    Calls Try.prog 24 #[v] w fun e W' => e = .returned (.tuple #[.slice none 0 0, .slice none 0 0, .bool false]) ∧ w = W' := by
  obtain ⟨A, cap, rfl, _, _, _⟩ := spots_at h
  have hd : decide (xs.length < 3) = true := decide_eq_true hl
  have hd2 : decide ((xs.length : Int) < 3) = true := decide_eq_true (by omega)
  clear h
  go_enter Try.func24, Try.ntmps24
  go_wp2
  go_ret3
  exact ⟨rfl, rfl⟩
set_option maxRecDepth 100000 in
set_option maxHeartbeats 4000000 in
theorem refHalves_inner (a b : Int) (l r : Tr) (v : Value) (w : World) (h : Spots w.heap.size w (flat (.inner a b l r)) [v]) (hn : (flat (.inner a b l r)).length ≤ 1000000) :
    Calls Try.prog 24 #[v] w fun e W' => ∃ v1 v2, e = .returned (.tuple #[v1, v2, .bool true]) ∧ Spots W'.heap.size W' (flat l) [v1] ∧ Spots W'.heap.size W' (flat r) [v2] ∧ Below w.heap.size w W' := by
  have HM := Lib.hid h
  obtain ⟨A, cap, rfl, hlc, hcm, hp⟩ := spots_at h
  have hcm2 : cap ≤ 9223372036854775807 := Nat.le_trans hcm (by decide)
  obtain ⟨g, off, rfl, -, hc0, -, -⟩ := hp 0 (by simp [flat])
  replace hc0 : w.cell? ⟨g, off + 0 * 3, none⟩ = some (.bool false) := hc0
  simp only [Nat.zero_mul, Nat.add_zero] at hc0
  have hl := flat_inner_len a b l r
  obtain ⟨mid, hmid⟩ : ∃ m, 1 + (flat l).length = m := ⟨_, rfl⟩
  have hp1 := flat_pos l
  have hp2 := flat_pos r
  obtain ⟨A1, hr1, hS1⟩ := cut_mid h hlc 1 mid (by omega) (by omega)
  obtain ⟨A2, hr2, hS2⟩ := cut_from h mid (by omega)
  have e1 := drop_left a b l r
  have e2 := drop_right a b l r
  have e3 := endI_left a b l r
  rw [hmid] at e1 e2 e3
  rw [e1] at hS1
  rw [e2] at hS2
  clear e1 e2
  replace hr1 : ∀ wx, (Instr.slice 22 (.slice (some ⟨g, off, none⟩) (flat (.inner a b l r)).length cap) (some (.int .i64 1)) (some (.int .i64 ((mid : Nat) : Int))) none).run Try.prog wx = .ok (.slice A1 (mid - 1) (cap - 1)) wx := hr1
  have HR1 := Lib.hid hr1
  have HR2 := Lib.hid hr2
  have HE1 := Lib.hid e3
  clear e3
  have HS1 := Lib.hid hS1
  have HS2 := Lib.hid hS2
  have hd : decide ((flat (.inner a b l r)).length < 3) = false := decide_eq_false (by omega)
  have hd2 : decide (((flat (.inner a b l r)).length : Int) < 3) = false := decide_eq_false (by omega)
  have hlp : (0 : Int) < ((flat (.inner a b l r)).length : Int) := by omega
  clear h hp hcm hr1 hr2 hS1 hS2
  have hm1 : 1 ≤ mid := by omega
  have hm2 : mid ≤ (flat (.inner a b l r)).length := by omega
  clear hl hmid hp1 hp2
  generalize flat (.inner a b l r) = xs at *
  go_enter Try.func24, Try.ntmps24
  go_wp2_with fail
  refine (refEnd_any _ _ 1 w HM.out hn).mono ?_
  rintro e W1 ⟨rfl, rfl⟩
  rw [HE1.out]
  have hr1 := HR1.out
  have hr2 := HR2.out
  have hneg : ¬ ((mid : Int) < 0) := by omega
  go_wp2_with fail
  go_quiet (fail)
  go_wp2
  go_ret3
  exact ⟨_, _, rfl, HS1.out, HS2.out, ⟨rfl, rfl, rfl, Nat.le_refl _, fun _ _ => rfl⟩⟩
set_option maxRecDepth 100000 in
theorem refHeight_nil (v : Value) (w : World) (h : Spots w.heap.size w [] [v]) :
    Calls Try.prog 17 #[v] w fun e W' => e = .returned (.int .i64 (-1)) ∧ Below w.heap.size w W' := by
  have HM := Lib.hid h
  obtain ⟨A, cap, rfl, _, _, _⟩ := spots_at h
  clear h
  go_enter Try.func17, Try.ntmps17
  go_wp2_with fail
  refine (refHalves_few [] _ w HM.out (by decide)).mono ?_
  rintro e W1 ⟨rfl, rfl⟩
  go_wp2
  go_ret
  exact ⟨rfl, Below.refl _ _⟩
set_option maxRecDepth 100000 in
set_option maxHeartbeats 4000000 in
theorem refHeight_flat : ∀ (t : Tr) (v : Value) (w : World), Spots w.heap.size w (flat t) [v] → (flat t).length ≤ 1000000 →
    Calls Try.prog 17 #[v] w fun e W' => e = .returned (.int .i64 (ht t)) ∧ Below w.heap.size w W'
  | .leaf a b, v, w, h, hn => by
    have HM := Lib.hid h
    obtain ⟨A, cap, rfl, _, _, _⟩ := spots_at h
    clear h
    go_enter Try.func17, Try.ntmps17
    go_wp2_with fail
    refine (refHalves_few (flat (.leaf a b)) _ w HM.out (by simp [flat])).mono ?_
    rintro e W1 ⟨rfl, rfl⟩
    have hz : (((flat (.leaf a b)).length : Int) == 0) = false := by simp [flat]
    go_wp2
    go_ret
    exact ⟨rfl, Below.refl _ _⟩
  | .inner a b l r, v, w, h, hn => by
    have HM := Lib.hid h
    obtain ⟨A, cap, rfl, _, _, _⟩ := spots_at h
    clear h
    have hl := flat_inner_len a b l r
    have x1 := ht_nonneg l
    have x2 := ht_nonneg r
    have x3 := ht_le l
    have x4 := ht_le r
    have x5 : ht l ≤ 1000000 := by omega
    have x6 : ht r ≤ 1000000 := by omega
    have x7 : ht (.inner a b l r) = 1 + max (ht l) (ht r) := rfl
    have hfl : (flat l).length ≤ 1000000 := by omega
    have hfr : (flat r).length ≤ 1000000 := by omega
    have ihl := Lib.hid (fun v w h => refHeight_flat l v w h hfl)
    have ihr := Lib.hid (fun v w h => refHeight_flat r v w h hfr)
    have HH := Lib.hid (refHalves_inner a b l r _ w HM.out hn)
    have hz : (((flat (.inner a b l r)).length : Int) == 0) = false := beq_eq_false_iff_ne.2 (by omega)
    clear x3 x4 hfl hfr hl
    rw [x7]
    clear x7
    generalize ht l = p at *
    generalize ht r = q at *
    generalize flat (.inner a b l r) = xs at *
    go_enter Try.func17, Try.ntmps17
    go_wp2_with fail
    refine HH.out.mono ?_
    rintro e W1 ⟨v1, v2, rfl, h1, h2, B1⟩
    have H1 := Lib.hid h1
    have H2 := Lib.hid h2
    clear h1 h2
    go_wp2_with fail
    refine (ihl.out _ W1 H1.out).mono ?_
    rintro e W2 ⟨rfl, B2⟩
    go_wp2_with fail
    refine (ihr.out _ W2 (keeps_spots _ _ _ _ _ _ H2.out B2 B2.size)).mono ?_
    rintro e W3 ⟨rfl, B3⟩
    replace B3 := (B1.trans (B2.mono B1.size)).trans (B3.mono (Nat.le_trans B1.size B2.size))
    have y2 : max p q ≤ 1000000 := by omega
    have y3 : 0 ≤ max p q := by omega
    go_wp2
    all_goals
      go_ret
      exact ⟨rint (by omega), B3⟩

end Go.Proofs.Ytlmkgkfildgkgaa
