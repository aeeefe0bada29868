/- Leaf, Join, Halves of lodge/tree, leaf of the law, Halves of the document. Condition: the slices read as spots, of at most a few. -/
import Derived.Test.YtokhaldnakjiaaaTreeC
import Derived.Test.YtokhaldnakjiaaaPhaseA
namespace Go.Proofs.Ytokhaldnakjiaaa
open Go Go.RowKit
set_option linter.unusedVariables false

theorem grow_lists {n m : Nat} {w : World} {xss : List (List Sp)} {cs : List Value} (h : Lists n w xss cs) (hm : n ≤ m) : Lists m w xss cs := keeps_lists _ _ _ _ _ _ h (Below.refl _ _) hm
theorem grow_spots {n m : Nat} {w : World} {xs : List Sp} {cs : List Value} (h : Spots n w xs cs) (hm : n ≤ m) : Spots m w xs cs := keeps_spots _ _ _ _ _ _ h (Below.refl _ _) hm

set_option maxRecDepth 100000 in
set_option maxHeartbeats 4000000 in
theorem join_none (u v : Value) (a b : List Sp) (w : World) (ha : Spots w.heap.size w a [u]) (hb : Spots w.heap.size w b [v]) (hz : a.length = 0 ∨ b.length = 0) (hl : a.length + b.length ≤ 1000000) :
    Calls Try.prog 44 #[u, v] w fun e W' => ∃ v', e = .returned v' ∧ Spots W'.heap.size W' (a ++ b) [v'] ∧ Below w.heap.size w W' := by
  have HA := Lib.hid ha
  have HB := Lib.hid hb
  obtain ⟨A, cap, rfl, hlc, hcm, _⟩ := spots_at ha
  obtain ⟨A', cap', rfl, hlc', hcm', _⟩ := spots_at hb
  clear ha hb
  have HT : Hid (tot [a, b] ≤ 1000000) := Lib.hid (by simpa [tot] using hl)
  have fin : ∀ (W : World), (∃ u v : Value, u = .slice A a.length cap ∧ v = .slice A' b.length cap' ∧ W = w.alloc (.cells #[u, v] 24)) → Calls Try.prog 43 #[.slice (some ⟨w.heap.size, 0, none⟩) 2 2] W fun e W' => ∃ v', e = .returned v' ∧ Spots W'.heap.size W' (a ++ b) [v'] ∧ Below w.heap.size w W' := by
    rintro W ⟨u, v, rfl, rfl, rfl⟩
    have hB := below_new w (.cells #[.slice A a.length cap, .slice A' b.length cap'] 24)
    refine (concatS_any _ [a, b] _ (grow_lists (lists_two _ HA.out HB.out (Nat.le_refl _)) (by simp)) (by simp) HT.out).mono ?_
    rintro e W1 ⟨v', rfl, h, B⟩
    exact ⟨v', rfl, by simpa using h, hB.trans (B.mono hB.size)⟩
  have HF := Lib.hid fin
  clear fin
  by_cases h0 : a.length = 0
  · have h1 : ((a.length : Int) == 0) = true := by rw [h0]; rfl
    clear h0 hz
    go_enter Try.func44, Try.ntmps44
    go_wp2_with fail
    refine (HF.out _ ⟨_, _, rfl, rfl, rfl⟩).mono ?_
    rintro e W1 ⟨v', rfl, h, B⟩
    go_wp2
    go_ret
    exact ⟨_, rfl, h, B⟩
  · have h1 : ((a.length : Int) == 0) = false := beq_eq_false_iff_ne.2 (by omega)
    have h2 : ((b.length : Int) == 0) = true := by rw [show b.length = 0 by omega]; rfl
    go_enter Try.func44, Try.ntmps44
    go_wp2_with fail
    refine (HF.out _ ⟨_, _, rfl, rfl, rfl⟩).mono ?_
    rintro e W1 ⟨v', rfl, h, B⟩
    go_wp2
    go_ret
    exact ⟨_, rfl, h, B⟩
set_option maxRecDepth 100000 in
set_option maxHeartbeats 4000000 in
theorem join_both (u v : Value) (a b : List Sp) (w : World) (ha : Spots w.heap.size w a [u]) (hb : Spots w.heap.size w b [v]) (h0 : a.length ≠ 0) (h1 : b.length ≠ 0) (hl : a.length + b.length ≤ 900000) :
    Calls Try.prog 44 #[u, v] w fun e W' => ∃ v', e = .returned v' ∧ Spots W'.heap.size W' ((false, 0, 0) :: (a ++ b)) [v'] ∧ Below w.heap.size w W' := by
  have HA := Lib.hid ha
  have HB := Lib.hid hb
  obtain ⟨A, cap, rfl, hlc, hcm, _⟩ := spots_at ha
  obtain ⟨A', cap', rfl, hlc', hcm', _⟩ := spots_at hb
  clear ha hb
  have HT : Hid (tot [[(false, 0, 0)], a, b] ≤ 1000000) := Lib.hid (by simp [tot]; omega)
  have fin : ∀ (W : World), (∃ u v : Value, u = .slice A a.length cap ∧ v = .slice A' b.length cap' ∧ W = (w.alloc (.cells #[.bool false, .int .i64 0, .int .i64 0] 52)).alloc (.cells #[.slice (some ⟨w.heap.size, 0, none⟩) 1 1, u, v] 24)) → Calls Try.prog 43 #[.slice (some ⟨w.heap.size + 1, 0, none⟩) 3 3] W fun e W' => ∃ v', e = .returned v' ∧ Spots W'.heap.size W' ((false, 0, 0) :: (a ++ b)) [v'] ∧ Below w.heap.size w W' := by
    rintro W ⟨u, v, rfl, rfl, rfl⟩
    have hB0 := below_new w (.cells #[.bool false, .int .i64 0, .int .i64 0] 52)
    have hB := below_new2 w (.cells #[.bool false, .int .i64 0, .int .i64 0] 52) (.cells #[.slice (some ⟨w.heap.size, 0, none⟩) 1 1, .slice A a.length cap, .slice A' b.length cap'] 24)
    have l3 := lists_three (w := w.alloc (.cells #[.bool false, .int .i64 0, .int .i64 0] 52)) 24 (grow_spots (one_spot w (false, 0, 0) 52 _ rfl) (by simp)) (keeps_spots _ _ _ _ _ _ HA.out hB0 hB0.size) (keeps_spots _ _ _ _ _ _ HB.out hB0 hB0.size) (Nat.le_refl _)
    refine (concatS_any _ [[(false, 0, 0)], a, b] _ (grow_lists (by simpa using l3) (by simp)) (by simp) HT.out).mono ?_
    rintro e W1 ⟨v', rfl, h, B⟩
    exact ⟨v', rfl, by simpa using h, hB.trans (B.mono hB.size)⟩
  have HF := Lib.hid fin
  clear fin
  have h2 : ((a.length : Int) == 0) = false := beq_eq_false_iff_ne.2 (by omega)
  have h3 : ((b.length : Int) == 0) = false := beq_eq_false_iff_ne.2 (by omega)
  go_enter Try.func44, Try.ntmps44
  go_wp2_with fail
  refine (HF.out _ ⟨_, _, rfl, rfl, rfl⟩).mono ?_
  rintro e W1 ⟨v', rfl, h, B⟩
  go_wp2
  go_ret
  exact ⟨_, rfl, h, B⟩

end Go.Proofs.Ytokhaldnakjiaaa
