/- Several texts in one: each part says what it proves, and under which conditions. -/
import Derived.Test.YtjnefacdindamaaGreatDoorTreeA
import Derived.Test.YtjnefacdindamaaGreatDoorPhaseA
import Derived.Deep.RegionWith

/- Leaf, Join, Halves of lodge/tree, leaf of the law, Halves of the document. Condition: the slices read as spots, of at most a few. -/
namespace Go.Proofs.YtjnefacdindamaaGreatDoor
open Go Go.RowKit
set_option linter.unusedVariables false
set_option maxRecDepth 100000

theorem grow_lists {n m : Nat} {w : World} {xss : List (List Sp)} {cs : List Value} (h : Lists n w xss cs) (hm : n ≤ m) : Lists m w xss cs := keeps_lists _ _ _ _ _ _ h (Below.refl _ _) hm
theorem grow_spots {n m : Nat} {w : World} {xs : List Sp} {cs : List Value} (h : Spots n w xs cs) (hm : n ≤ m) : Spots m w xs cs := keeps_spots _ _ _ _ _ _ h (Below.refl _ _) hm


end Go.Proofs.YtjnefacdindamaaGreatDoor


/- Halves and heights of trees; lodge/tree's and the document's. Condition: the slice reads as a tree's spots, of at most a million. -/
namespace Go.Proofs.YtjnefacdindamaaGreatDoor
open Go Go.RowKit
set_option linter.unusedVariables false
set_option maxRecDepth 100000

theorem sliced_is (A : Option Addr) (l h m s : Nat) : ∃ A', sliced A l h m s = .slice A' (h - l) (m - l) := ⟨_, rfl⟩
set_option maxRecDepth 100000 in
/-- Spots from the i-th on. -/
theorem cut_from {n : Nat} {w : World} {xs : List Sp} {A : Option Addr} {cap : Nat} (h : Spots n w xs [.slice A xs.length cap]) (i : Nat) (hi : i ≤ xs.length) :
    ∃ A', (∀ wx, (Instr.slice 22 (.slice A xs.length cap) (some (.int .i64 (i : Int))) none none).run Tryz.prog wx = .ok (.slice A' (xs.length - i) (cap - i)) wx) ∧ Spots n w (xs.drop i) [.slice A' (xs.length - i) (cap - i)] := by
  have hS := slice_cut h i xs.length hi (Nat.le_refl _)
  obtain ⟨A', e⟩ := sliced_is A i xs.length cap 3
  refine ⟨A', fun wx => ?_, ?_⟩
  · rw [run_slice_l _ _ _ _ _ Tryz.underlying22 _ _ (by omega) (by omega)]
    have es : (sizeOf (Tryz.prog.elem 22)).run Tryz.prog wx = .ok 3 wx := Tryz.sizeOf60 wx
    rw [es]
    simp only [Result.andThen, Int.toNat_natCast, e]
  · rw [e, List.take_of_length_le (by simp)] at hS
    exact hS
set_option maxRecDepth 100000 in
/-- Spots from the i-th to ahead of the j-th. -/
theorem cut_mid {n : Nat} {w : World} {xs : List Sp} {A : Option Addr} {cap : Nat} (h : Spots n w xs [.slice A xs.length cap]) (hc : xs.length ≤ cap) (i j : Nat) (hij : i ≤ j) (hj : j ≤ xs.length) :
    ∃ A', (∀ wx, (Instr.slice 22 (.slice A xs.length cap) (some (.int .i64 (i : Int))) (some (.int .i64 (j : Int))) none).run Tryz.prog wx = .ok (.slice A' (j - i) (cap - i)) wx) ∧ Spots n w ((xs.drop i).take (j - i)) [.slice A' (j - i) (cap - i)] := by
  have hS := slice_cut h i j hij hj
  obtain ⟨A', e⟩ := sliced_is A i j cap 3
  refine ⟨A', fun wx => ?_, ?_⟩
  · rw [run_slice_lh _ _ _ _ _ Tryz.underlying22 _ _ _ _ (by omega) (by omega) (by omega)]
    have es : (sizeOf (Tryz.prog.elem 22)).run Tryz.prog wx = .ok 3 wx := Tryz.sizeOf60 wx
    rw [es]
    simp only [Result.andThen, Int.toNat_natCast, e]
  · rw [e] at hS
    exact hS



theorem flat_inner_len (a b : Int) (l r : Tr) : (flat (.inner a b l r)).length = 1 + (flat l).length + (flat r).length := by
  simp only [flat, List.length_cons, List.length_append]; omega
theorem drop_left (a b : Int) (l r : Tr) : ((flat (.inner a b l r)).drop 1).take (1 + (flat l).length - 1) = flat l := by
  have e : (flat (.inner a b l r)).drop 1 = flat l ++ flat r := rfl
  rw [e, Nat.add_sub_cancel_left, List.take_left]
theorem drop_right (a b : Int) (l r : Tr) : (flat (.inner a b l r)).drop (1 + (flat l).length) = flat r := by
  have e : flat (.inner a b l r) = [(false, a, b)] ++ flat l ++ flat r := by simp [flat]
  rw [e, show 1 + (flat l).length = ([(false, a, b)] ++ flat l).length by simp [Nat.add_comm], List.drop_left]
theorem endI_left (a b : Int) (l r : Tr) : endI (flat (.inner a b l r)) 1 = ((1 + (flat l).length : Nat) : Int) :=
  endI_part (flat (.inner a b l r)) 1 l (flat r) rfl


end Go.Proofs.YtjnefacdindamaaGreatDoor


/- Halves and heights of trees; the document's. Condition: the slice reads as a tree's spots, of at most a million. -/
namespace Go.Proofs.YtjnefacdindamaaGreatDoor
open Go Go.RowKit
set_option linter.unusedVariables false
set_option maxRecDepth 100000

set_option maxRecDepth 100000 in
theorem refHalves_few (xs : List Sp) (v : Value) (w : World) (h : Spots w.heap.size w xs [v]) (hl : xs.length < 3) :
    Calls Tryz.prog 18 #[v] w fun e W' => e = .returned (.tuple #[.slice none 0 0, .slice none 0 0, .bool false]) ∧ w = W' := by
  obtain ⟨A, cap, rfl, _, _, _⟩ := spots_at h
  have hd : decide (xs.length < 3) = true := decide_eq_true hl
  have hd2 : decide ((xs.length : Int) < 3) = true := decide_eq_true (by omega)
  clear h
  go_enter Tryz.func18, Tryz.ntmps18
  go_wp2
  go_ret3
  exact ⟨rfl, rfl⟩
set_option maxRecDepth 100000 in
set_option maxHeartbeats 4000000 in
theorem refHalves_inner (a b : Int) (l r : Tr) (v : Value) (w : World) (h : Spots w.heap.size w (flat (.inner a b l r)) [v]) (hn : (flat (.inner a b l r)).length ≤ 1000000) :
    Calls Tryz.prog 18 #[v] w fun e W' => ∃ v1 v2, e = .returned (.tuple #[v1, v2, .bool true]) ∧ Spots W'.heap.size W' (flat l) [v1] ∧ Spots W'.heap.size W' (flat r) [v2] ∧ Below w.heap.size w W' := by
  have HM := Lib.hid h
  obtain ⟨A, cap, rfl, hlc, hcm, hp⟩ := spots_at h
  have hcm2 : cap ≤ 9223372036854775807 := Nat.le_trans hcm (by decide)
  obtain ⟨g, off, rfl, -, hc0, -, -⟩ := hp 0 (by simp [flat])
  replace hc0 : w.cell? ⟨g, off + 0 * 3, none⟩ = some (.bool false) := hc0
  simp only [Nat.zero_mul, Nat.add_zero] at hc0
  have hl := flat_inner_len a b l r
  obtain ⟨mid, hmid⟩ : ∃ m, 1 + (flat l).length = m := ⟨_, rfl⟩
  have hp1 := flat_pos l
  have hp2 := flat_pos r
  obtain ⟨A1, hr1, hS1⟩ := cut_mid h hlc 1 mid (by omega) (by omega)
  obtain ⟨A2, hr2, hS2⟩ := cut_from h mid (by omega)
  have e1 := drop_left a b l r
  have e2 := drop_right a b l r
  have e3 := endI_left a b l r
  rw [hmid] at e1 e2 e3
  rw [e1] at hS1
  rw [e2] at hS2
  clear e1 e2
  replace hr1 : ∀ wx, (Instr.slice 22 (.slice (some ⟨g, off, none⟩) (flat (.inner a b l r)).length cap) (some (.int .i64 1)) (some (.int .i64 ((mid : Nat) : Int))) none).run Tryz.prog wx = .ok (.slice A1 (mid - 1) (cap - 1)) wx := hr1
  have HR1 := Lib.hid hr1
  have HR2 := Lib.hid hr2
  have HE1 := Lib.hid e3
  clear e3
  have HS1 := Lib.hid hS1
  have HS2 := Lib.hid hS2
  have hd : decide ((flat (.inner a b l r)).length < 3) = false := decide_eq_false (by omega)
  have hd2 : decide (((flat (.inner a b l r)).length : Int) < 3) = false := decide_eq_false (by omega)
  have hlp : (0 : Int) < ((flat (.inner a b l r)).length : Int) := by omega
  clear h hp hcm hr1 hr2 hS1 hS2
  have hm1 : 1 ≤ mid := by omega
  have hm2 : mid ≤ (flat (.inner a b l r)).length := by omega
  clear hl hmid hp1 hp2
  generalize flat (.inner a b l r) = xs at *
  go_enter Tryz.func18, Tryz.ntmps18
  go_wp2_with fail
  refine (refEnd_any _ _ 1 w HM.out hn).mono ?_
  rintro e W1 ⟨rfl, rfl⟩
  rw [HE1.out]
  have hr1 := HR1.out
  have hr2 := HR2.out
  have hneg : ¬ ((mid : Int) < 0) := by omega
  go_wp2_with fail
  go_quiet (fail)
  go_wp2
  go_ret3
  exact ⟨_, _, rfl, HS1.out, HS2.out, ⟨rfl, rfl, rfl, Nat.le_refl _, fun _ _ => rfl⟩⟩

end Go.Proofs.YtjnefacdindamaaGreatDoor
