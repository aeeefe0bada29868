/- Several texts in one: each part says what it proves, and under which conditions. -/
import Derived.Test.YtkmlnglmecjmeaaTreeA
import Derived.Test.YtkmlnglmecjmeaaPhaseA
import Derived.Deep.RegionWith

/- Leaf, Join, Halves of lodge/tree, leaf of the law, Halves of the document. Condition: the slices read as spots, of at most a few. -/
namespace Go.Proofs.Ytkmlnglmecjmeaa
open Go Go.RowKit
set_option linter.unusedVariables false

theorem grow_lists {n m : Nat} {w : World} {xss : List (List Sp)} {cs : List Value} (h : Lists n w xss cs) (hm : n ≤ m) : Lists m w xss cs := keeps_lists _ _ _ _ _ _ h (Below.refl _ _) hm
theorem grow_spots {n m : Nat} {w : World} {xs : List Sp} {cs : List Value} (h : Spots n w xs cs) (hm : n ≤ m) : Spots m w xs cs := keeps_spots _ _ _ _ _ _ h (Below.refl _ _) hm

set_option maxRecDepth 100000 in
theorem leaf_any (a b : Int) (w : World) : Calls Try.prog 22 #[vM a b] w fun e W' => ∃ v', e = .returned v' ∧ Spots W'.heap.size W' [(true, a, b)] [v'] ∧ Below w.heap.size w W' := by
  go_enter Try.func22, Try.ntmps22
  go_wp2
  go_ret
  exact ⟨_, rfl, grow_spots (one_spot _ (true, a, b) _ _ (by simp)) (by simp), below_new2 w _ _⟩
set_option maxRecDepth 100000 in
set_option maxHeartbeats 4000000 in
theorem join_none (u v : Value) (a b : List Sp) (w : World) (ha : Spots w.heap.size w a [u]) (hb : Spots w.heap.size w b [v]) (hz : a.length = 0 ∨ b.length = 0) (hl : a.length + b.length ≤ 1000000) :
    Calls Try.prog 67 #[u, v] w fun e W' => ∃ v', e = .returned v' ∧ Spots W'.heap.size W' (a ++ b) [v'] ∧ Below w.heap.size w W' := by
  have HA := Lib.hid ha
  have HB := Lib.hid hb
  obtain ⟨A, cap, rfl, hlc, hcm, _⟩ := spots_at ha
  obtain ⟨A', cap', rfl, hlc', hcm', _⟩ := spots_at hb
  clear ha hb
  have HT : Hid (tot [a, b] ≤ 1000000) := Lib.hid (by simpa [tot] using hl)
  have fin : ∀ (W : World), (∃ u v : Value, u = .slice A a.length cap ∧ v = .slice A' b.length cap' ∧ W = w.alloc (.cells #[u, v] 32)) → Calls Try.prog 66 #[.slice (some ⟨w.heap.size, 0, none⟩) 2 2] W fun e W' => ∃ v', e = .returned v' ∧ Spots W'.heap.size W' (a ++ b) [v'] ∧ Below w.heap.size w W' := by
    rintro W ⟨u, v, rfl, rfl, rfl⟩
    have hB := below_new w (.cells #[.slice A a.length cap, .slice A' b.length cap'] 32)
    refine (concatS_any _ [a, b] _ (grow_lists (lists_two _ HA.out HB.out (Nat.le_refl _)) (by simp)) (by simp) HT.out).mono ?_
    rintro e W1 ⟨v', rfl, h, B⟩
    exact ⟨v', rfl, by simpa using h, hB.trans (B.mono hB.size)⟩
  have HF := Lib.hid fin
  clear fin
  by_cases h0 : a.length = 0
  · have h1 : ((a.length : Int) == 0) = true := by rw [h0]; rfl
    clear h0 hz
    go_enter Try.func67, Try.ntmps67
    go_wp2_with fail
    refine (HF.out _ ⟨_, _, rfl, rfl, rfl⟩).mono ?_
    rintro e W1 ⟨v', rfl, h, B⟩
    go_wp2
    go_ret
    exact ⟨_, rfl, h, B⟩
  · have h1 : ((a.length : Int) == 0) = false := beq_eq_false_iff_ne.2 (by omega)
    have h2 : ((b.length : Int) == 0) = true := by rw [show b.length = 0 by omega]; rfl
    go_enter Try.func67, Try.ntmps67
    go_wp2_with fail
    refine (HF.out _ ⟨_, _, rfl, rfl, rfl⟩).mono ?_
    rintro e W1 ⟨v', rfl, h, B⟩
    go_wp2
    go_ret
    exact ⟨_, rfl, h, B⟩
set_option maxRecDepth 100000 in
set_option maxHeartbeats 4000000 in
theorem join_both (u v : Value) (a b : List Sp) (w : World) (ha : Spots w.heap.size w a [u]) (hb : Spots w.heap.size w b [v]) (h0 : a.length ≠ 0) (h1 : b.length ≠ 0) (hl : a.length + b.length ≤ 900000) :
    Calls Try.prog 67 #[u, v] w fun e W' => ∃ v', e = .returned v' ∧ Spots W'.heap.size W' ((false, 0, 0) :: (a ++ b)) [v'] ∧ Below w.heap.size w W' := by
  have HA := Lib.hid ha
  have HB := Lib.hid hb
  obtain ⟨A, cap, rfl, hlc, hcm, _⟩ := spots_at ha
  obtain ⟨A', cap', rfl, hlc', hcm', _⟩ := spots_at hb
  clear ha hb
  have HT : Hid (tot [[(false, 0, 0)], a, b] ≤ 1000000) := Lib.hid (by simp [tot]; omega)
  have fin : ∀ (W : World), (∃ u v : Value, u = .slice A a.length cap ∧ v = .slice A' b.length cap' ∧ W = (w.alloc (.cells #[.bool false, .int .i64 0, .int .i64 0] 56)).alloc (.cells #[.slice (some ⟨w.heap.size, 0, none⟩) 1 1, u, v] 32)) → Calls Try.prog 66 #[.slice (some ⟨w.heap.size + 1, 0, none⟩) 3 3] W fun e W' => ∃ v', e = .returned v' ∧ Spots W'.heap.size W' ((false, 0, 0) :: (a ++ b)) [v'] ∧ Below w.heap.size w W' := by
    rintro W ⟨u, v, rfl, rfl, rfl⟩
    have hB0 := below_new w (.cells #[.bool false, .int .i64 0, .int .i64 0] 56)
    have hB := below_new2 w (.cells #[.bool false, .int .i64 0, .int .i64 0] 56) (.cells #[.slice (some ⟨w.heap.size, 0, none⟩) 1 1, .slice A a.length cap, .slice A' b.length cap'] 32)
    have l3 := lists_three (w := w.alloc (.cells #[.bool false, .int .i64 0, .int .i64 0] 56)) 32 (grow_spots (one_spot w (false, 0, 0) 56 _ rfl) (by simp)) (keeps_spots _ _ _ _ _ _ HA.out hB0 hB0.size) (keeps_spots _ _ _ _ _ _ HB.out hB0 hB0.size) (Nat.le_refl _)
    refine (concatS_any _ [[(false, 0, 0)], a, b] _ (grow_lists (by simpa using l3) (by simp)) (by simp) HT.out).mono ?_
    rintro e W1 ⟨v', rfl, h, B⟩
    exact ⟨v', rfl, by simpa using h, hB.trans (B.mono hB.size)⟩
  have HF := Lib.hid fin
  clear fin
  have h2 : ((a.length : Int) == 0) = false := beq_eq_false_iff_ne.2 (by omega)
  have h3 : ((b.length : Int) == 0) = false := beq_eq_false_iff_ne.2 (by omega)
  go_enter Try.func67, Try.ntmps67
  go_wp2_with fail
  refine (HF.out _ ⟨_, _, rfl, rfl, rfl⟩).mono ?_
  rintro e W1 ⟨v', rfl, h, B⟩
  go_wp2
  go_ret
  exact ⟨_, rfl, h, B⟩

end Go.Proofs.Ytkmlnglmecjmeaa


/- Halves and heights of trees; lodge/tree's and the document's. Condition: the slice reads as a tree's spots, of at most a million. -/
namespace Go.Proofs.Ytkmlnglmecjmeaa
open Go Go.RowKit
set_option linter.unusedVariables false

theorem sliced_is (A : Option Addr) (l h m s : Nat) : ∃ A', sliced A l h m s = .slice A' (h - l) (m - l) := ⟨_, rfl⟩
set_option maxRecDepth 100000 in
/-- Spots from the i-th on. -/
theorem cut_from {n : Nat} {w : World} {xs : List Sp} {A : Option Addr} {cap : Nat} (h : Spots n w xs [.slice A xs.length cap]) (i : Nat) (hi : i ≤ xs.length) :
    ∃ A', (∀ wx, (Instr.slice 32 (.slice A xs.length cap) (some (.int .i64 (i : Int))) none none).run Try.prog wx = .ok (.slice A' (xs.length - i) (cap - i)) wx) ∧ Spots n w (xs.drop i) [.slice A' (xs.length - i) (cap - i)] := by
  have hS := slice_cut h i xs.length hi (Nat.le_refl _)
  obtain ⟨A', e⟩ := sliced_is A i xs.length cap 3
  refine ⟨A', fun wx => ?_, ?_⟩
  · rw [run_slice_l _ _ _ _ _ Try.underlying32 _ _ (by omega) (by omega)]
    have es : (sizeOf (Try.prog.elem 32)).run Try.prog wx = .ok 3 wx := Try.sizeOf56 wx
    rw [es]
    simp only [Result.andThen, Int.toNat_natCast, e]
  · rw [e, List.take_of_length_le (by simp)] at hS
    exact hS
set_option maxRecDepth 100000 in
/-- Spots from the i-th to ahead of the j-th. -/
theorem cut_mid {n : Nat} {w : World} {xs : List Sp} {A : Option Addr} {cap : Nat} (h : Spots n w xs [.slice A xs.length cap]) (hc : xs.length ≤ cap) (i j : Nat) (hij : i ≤ j) (hj : j ≤ xs.length) :
    ∃ A', (∀ wx, (Instr.slice 32 (.slice A xs.length cap) (some (.int .i64 (i : Int))) (some (.int .i64 (j : Int))) none).run Try.prog wx = .ok (.slice A' (j - i) (cap - i)) wx) ∧ Spots n w ((xs.drop i).take (j - i)) [.slice A' (j - i) (cap - i)] := by
  have hS := slice_cut h i j hij hj
  obtain ⟨A', e⟩ := sliced_is A i j cap 3
  refine ⟨A', fun wx => ?_, ?_⟩
  · rw [run_slice_lh _ _ _ _ _ Try.underlying32 _ _ _ _ (by omega) (by omega) (by omega)]
    have es : (sizeOf (Try.prog.elem 32)).run Try.prog wx = .ok 3 wx := Try.sizeOf56 wx
    rw [es]
    simp only [Result.andThen, Int.toNat_natCast, e]
  · rw [e] at hS
    exact hS

set_option maxRecDepth 100000 in
theorem measure_nil (v : Value) (w : World) (h : Spots w.heap.size w [] [v]) :
    Calls Try.prog 71 #[v] w fun e W' => e = .returned (.tuple #[.int .i64 (-1), .slice none 0 0]) ∧ w = W' := by
  obtain ⟨A, cap, rfl, _, _, _⟩ := spots_at h
  clear h
  go_enter Try.func71, Try.ntmps71
  go_wp2
  go_ret2
  exact ⟨rfl, rfl⟩
set_option maxRecDepth 100000 in
set_option maxHeartbeats 4000000 in
theorem measure_flat : ∀ (t : Tr) (rest : List Sp) (v : Value) (w : World), Spots w.heap.size w (flat t ++ rest) [v] → (flat t ++ rest).length ≤ 1000000 →
    Calls Try.prog 71 #[v] w fun e W' => ∃ v', e = .returned (.tuple #[.int .i64 (ht t), v']) ∧ Spots W'.heap.size W' rest [v'] ∧ Below w.heap.size w W'
  | .leaf a b, rest, v, w, h, hn => by
    have HM := Lib.hid h
    obtain ⟨A, cap, rfl, hlc, hcm, hp⟩ := spots_at h
    have hcm2 : cap ≤ 9223372036854775807 := Nat.le_trans hcm (by decide)
    obtain ⟨A', hrun, hS⟩ := cut_from h 1 (by simp [flat])
    obtain ⟨g, off, rfl, -, hc0, -, -⟩ := hp 0 (by simp [flat])
    have hrun' : ∀ wx, (Instr.slice 32 (.slice (some ⟨g, off, none⟩) (flat (.leaf a b) ++ rest).length cap) (some (.int .i64 1)) none none).run Try.prog wx = .ok (.slice A' ((flat (.leaf a b) ++ rest).length - 1) (cap - 1)) wx := hrun
    have e1 : (flat (.leaf a b) ++ rest)[0]'(by simp [flat]) = (true, a, b) := rfl
    have e2 : (flat (.leaf a b) ++ rest).drop 1 = rest := rfl
    have hz : (((flat (.leaf a b) ++ rest).length : Int) == 0) = false := beq_eq_false_iff_ne.2 (by simp [flat]; omega)
    have hlp : 0 < (flat (.leaf a b) ++ rest).length := by simp [flat]
    rw [e1] at hc0
    rw [e2] at hS
    have HS := Lib.hid hS
    clear h hp hcm hS e1 e2 hrun
    generalize (flat (.leaf a b) ++ rest).length = N at *
    have hN : (0 : Int) < (N : Int) := by omega
    simp only [Nat.zero_mul, Nat.add_zero] at hc0
    go_enter Try.func71, Try.ntmps71
    go_wp2_with fail
    go_quiet (fail)
    go_wp2
    go_ret2
    exact ⟨_, rfl, HS.out, ⟨rfl, rfl, rfl, Nat.le_refl _, fun _ _ => rfl⟩⟩
  | .inner a b l r, rest, v, w, h, hn => by
    have HM := Lib.hid h
    obtain ⟨A, cap, rfl, hlc, hcm, hp⟩ := spots_at h
    have hcm2 : cap ≤ 9223372036854775807 := Nat.le_trans hcm (by decide)
    obtain ⟨A', hrun, hS⟩ := cut_from h 1 (by simp [flat])
    obtain ⟨g, off, rfl, -, hc0, -, -⟩ := hp 0 (by simp [flat])
    have hrun' : ∀ wx, (Instr.slice 32 (.slice (some ⟨g, off, none⟩) (flat (.inner a b l r) ++ rest).length cap) (some (.int .i64 1)) none none).run Try.prog wx = .ok (.slice A' ((flat (.inner a b l r) ++ rest).length - 1) (cap - 1)) wx := hrun
    have e1 : (flat (.inner a b l r) ++ rest)[0]'(by simp [flat]) = (false, a, b) := rfl
    have e2 : (flat (.inner a b l r) ++ rest).drop 1 = flat l ++ (flat r ++ rest) := by simp [flat]
    have hz : (((flat (.inner a b l r) ++ rest).length : Int) == 0) = false := beq_eq_false_iff_ne.2 (by simp [flat]; omega)
    have hlp : 0 < (flat (.inner a b l r) ++ rest).length := by simp [flat]
    have hn2 : (flat l ++ (flat r ++ rest)).length ≤ 1000000 := by simp [flat] at hn ⊢; omega
    have hn3 : (flat r ++ rest).length ≤ 1000000 := by simp at hn2 ⊢; omega
    have x1 := ht_nonneg l
    have x2 := ht_nonneg r
    have x3 := ht_le l
    have x4 := ht_le r
    have x5 : ht l ≤ 1000000 := by simp at hn2; omega
    have x6 : ht r ≤ 1000000 := by simp at hn2; omega
    have x7 : ht (.inner a b l r) = 1 + max (ht l) (ht r) := rfl
    clear x3 x4
    have ihl := Lib.hid (measure_flat l (flat r ++ rest))
    have ihr := Lib.hid (measure_flat r rest)
    rw [e1] at hc0
    rw [e2] at hS
    have HS := Lib.hid hS
    have HN2 := Lib.hid hn2
    have HN3 := Lib.hid hn3
    clear h hp hcm hS e1 e2 hrun hn2 hn3
    generalize (flat (.inner a b l r) ++ rest).length = N at *
    have hN : (0 : Int) < (N : Int) := by omega
    simp only [Nat.zero_mul, Nat.add_zero] at hc0
    rw [x7]
    clear x7
    generalize ht l = p at *
    generalize ht r = q at *
    go_enter Try.func71, Try.ntmps71
    go_wp2_with fail
    refine (ihl.out _ w HS.out HN2.out).mono ?_
    rintro e W1 ⟨v1, rfl, hv1, B1⟩
    have H1 := Lib.hid hv1
    clear hv1
    go_wp2_with fail
    refine (ihr.out _ W1 H1.out HN3.out).mono ?_
    rintro e W2 ⟨v2, rfl, hv2, B2⟩
    have H2 := Lib.hid hv2
    clear hv2
    have y1 : ¬ p < 0 := by omega
    have y2 : max p q ≤ 1000000 := by omega
    have y3 : 0 ≤ max p q := by omega
    go_wp2
    all_goals
      go_ret2
      exact ⟨v2, congrArg (fun x => Ending.returned (.tuple #[.int .i64 x, v2])) (by omega), H2.out, B1.trans (B2.mono B1.size)⟩

set_option maxRecDepth 100000 in
theorem height_nil (v : Value) (w : World) (h : Spots w.heap.size w [] [v]) :
    Calls Try.prog 51 #[v] w fun e W' => e = .returned (.int .i64 (-1)) ∧ w = W' := by
  go_enter Try.func51, Try.ntmps51
  go_wp2_with fail
  refine (measure_nil v w h).mono ?_
  rintro e W1 ⟨rfl, rfl⟩
  go_wp2
  go_ret
  exact ⟨rfl, rfl⟩
set_option maxRecDepth 100000 in
theorem height_flat (t : Tr) (v : Value) (w : World) (h : Spots w.heap.size w (flat t) [v]) (hn : (flat t).length ≤ 1000000) :
    Calls Try.prog 51 #[v] w fun e W' => e = .returned (.int .i64 (ht t)) ∧ Below w.heap.size w W' := by
  have HK := Lib.hid (measure_flat t [] v w (by rw [List.append_nil]; exact h) (by rw [List.append_nil]; exact hn))
  clear h
  generalize ht t = q at *
  go_enter Try.func51, Try.ntmps51
  go_wp2_with fail
  refine HK.out.mono ?_
  rintro e W1 ⟨v', rfl, _, B⟩
  go_wp2
  go_ret
  exact ⟨rfl, B⟩

theorem flat_inner_len (a b : Int) (l r : Tr) : (flat (.inner a b l r)).length = 1 + (flat l).length + (flat r).length := by
  simp only [flat, List.length_cons, List.length_append]; omega
theorem drop_left (a b : Int) (l r : Tr) : ((flat (.inner a b l r)).drop 1).take (1 + (flat l).length - 1) = flat l := by
  have e : (flat (.inner a b l r)).drop 1 = flat l ++ flat r := rfl
  rw [e, Nat.add_sub_cancel_left, List.take_left]
theorem drop_right (a b : Int) (l r : Tr) : (flat (.inner a b l r)).drop (1 + (flat l).length) = flat r := by
  have e : flat (.inner a b l r) = [(false, a, b)] ++ flat l ++ flat r := by simp [flat]
  rw [e, show 1 + (flat l).length = ([(false, a, b)] ++ flat l).length by simp [Nat.add_comm], List.drop_left]
theorem endI_left (a b : Int) (l r : Tr) : endI (flat (.inner a b l r)) 1 = ((1 + (flat l).length : Nat) : Int) :=
  endI_part (flat (.inner a b l r)) 1 l (flat r) rfl

set_option maxRecDepth 100000 in
theorem halves_nil (v : Value) (w : World) (h : Spots w.heap.size w [] [v]) :
    Calls Try.prog 85 #[v] w fun e W' => e = .returned (.tuple #[.slice none 0 0, .slice none 0 0, .bool false]) ∧ Below w.heap.size w W' := by
  obtain ⟨A, cap, rfl, _, _, _⟩ := spots_at h
  clear h
  go_enter Try.func85, Try.ntmps85
  go_wp2
  go_ret3
  exact ⟨rfl, Below.refl _ _⟩
set_option maxRecDepth 100000 in
theorem halves_leaf (a b : Int) (v : Value) (w : World) (h : Spots w.heap.size w (flat (.leaf a b)) [v]) :
    Calls Try.prog 85 #[v] w fun e W' => e = .returned (.tuple #[.slice none 0 0, .slice none 0 0, .bool false]) ∧ Below w.heap.size w W' := by
  obtain ⟨A, cap, rfl, _, _, hp⟩ := spots_at h
  obtain ⟨g, off, rfl, -, hc0', -, -⟩ := hp 0 (by simp [flat])
  have hc0 : w.cell? ⟨g, off + 0 * 3, none⟩ = some (.bool true) := hc0'
  clear hc0'
  simp only [Nat.zero_mul, Nat.add_zero] at hc0
  have hlp : 0 < (flat (.leaf a b)).length := by simp [flat]
  clear h hp
  generalize (flat (.leaf a b)).length = N at *
  have hz : ((N : Int) == 0) = false := beq_eq_false_iff_ne.2 (by omega)
  have hlq : (0 : Int) < (N : Int) := by omega
  go_enter Try.func85, Try.ntmps85
  go_wp2
  go_ret3
  exact ⟨rfl, Below.refl _ _⟩

end Go.Proofs.Ytkmlnglmecjmeaa


/- Halves and heights of trees; the document's. Condition: the slice reads as a tree's spots, of at most a million. -/
namespace Go.Proofs.Ytkmlnglmecjmeaa
open Go Go.RowKit
set_option linter.unusedVariables false

set_option maxRecDepth 100000 in
theorem refHalves_few (xs : List Sp) (v : Value) (w : World) (h : Spots w.heap.size w xs [v]) (hl : xs.length < 3) :
    Calls Try.prog 29 #[v] w fun e W' => e = .returned (.tuple #[.slice none 0 0, .slice none 0 0, .bool false]) ∧ w = W' := by
  obtain ⟨A, cap, rfl, _, _, _⟩ := spots_at h
  have hd : decide (xs.length < 3) = true := decide_eq_true hl
  have hd2 : decide ((xs.length : Int) < 3) = true := decide_eq_true (by omega)
  clear h
  go_enter Try.func29, Try.ntmps29
  go_wp2
  go_ret3
  exact ⟨rfl, rfl⟩
set_option maxRecDepth 100000 in
set_option maxHeartbeats 4000000 in
theorem refHalves_inner (a b : Int) (l r : Tr) (v : Value) (w : World) (h : Spots w.heap.size w (flat (.inner a b l r)) [v]) (hn : (flat (.inner a b l r)).length ≤ 1000000) :
    Calls Try.prog 29 #[v] w fun e W' => ∃ v1 v2, e = .returned (.tuple #[v1, v2, .bool true]) ∧ Spots W'.heap.size W' (flat l) [v1] ∧ Spots W'.heap.size W' (flat r) [v2] ∧ Below w.heap.size w W' := by
  have HM := Lib.hid h
  obtain ⟨A, cap, rfl, hlc, hcm, hp⟩ := spots_at h
  have hcm2 : cap ≤ 9223372036854775807 := Nat.le_trans hcm (by decide)
  obtain ⟨g, off, rfl, -, hc0, -, -⟩ := hp 0 (by simp [flat])
  replace hc0 : w.cell? ⟨g, off + 0 * 3, none⟩ = some (.bool false) := hc0
  simp only [Nat.zero_mul, Nat.add_zero] at hc0
  have hl := flat_inner_len a b l r
  obtain ⟨mid, hmid⟩ : ∃ m, 1 + (flat l).length = m := ⟨_, rfl⟩
  have hp1 := flat_pos l
  have hp2 := flat_pos r
  obtain ⟨A1, hr1, hS1⟩ := cut_mid h hlc 1 mid (by omega) (by omega)
  obtain ⟨A2, hr2, hS2⟩ := cut_from h mid (by omega)
  have e1 := drop_left a b l r
  have e2 := drop_right a b l r
  have e3 := endI_left a b l r
  rw [hmid] at e1 e2 e3
  rw [e1] at hS1
  rw [e2] at hS2
  clear e1 e2
  replace hr1 : ∀ wx, (Instr.slice 32 (.slice (some ⟨g, off, none⟩) (flat (.inner a b l r)).length cap) (some (.int .i64 1)) (some (.int .i64 ((mid : Nat) : Int))) none).run Try.prog wx = .ok (.slice A1 (mid - 1) (cap - 1)) wx := hr1
  have HR1 := Lib.hid hr1
  have HR2 := Lib.hid hr2
  have HE1 := Lib.hid e3
  clear e3
  have HS1 := Lib.hid hS1
  have HS2 := Lib.hid hS2
  have hd : decide ((flat (.inner a b l r)).length < 3) = false := decide_eq_false (by omega)
  have hd2 : decide (((flat (.inner a b l r)).length : Int) < 3) = false := decide_eq_false (by omega)
  have hlp : (0 : Int) < ((flat (.inner a b l r)).length : Int) := by omega
  clear h hp hcm hr1 hr2 hS1 hS2
  have hm1 : 1 ≤ mid := by omega
  have hm2 : mid ≤ (flat (.inner a b l r)).length := by omega
  clear hl hmid hp1 hp2
  generalize flat (.inner a b l r) = xs at *
  go_enter Try.func29, Try.ntmps29
  go_wp2_with fail
  refine (refEnd_any _ _ 1 w HM.out hn).mono ?_
  rintro e W1 ⟨rfl, rfl⟩
  rw [HE1.out]
  have hr1 := HR1.out
  have hr2 := HR2.out
  have hneg : ¬ ((mid : Int) < 0) := by omega
  go_wp2_with fail
  go_quiet (fail)
  go_wp2
  go_ret3
  exact ⟨_, _, rfl, HS1.out, HS2.out, ⟨rfl, rfl, rfl, Nat.le_refl _, fun _ _ => rfl⟩⟩

end Go.Proofs.Ytkmlnglmecjmeaa
