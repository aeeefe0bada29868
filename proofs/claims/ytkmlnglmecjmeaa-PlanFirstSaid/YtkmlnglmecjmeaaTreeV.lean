import Derived.Test.YtkmlnglmecjmeaaTreeKA
import Derived.Deep.RegionWith
/- Halves of a tree that is no leaf; lodge/tree's. Condition: the slice reads as its spots, of at most a million. -/
namespace Go.Proofs.Ytkmlnglmecjmeaa
open Go Go.RowKit
set_option linter.unusedVariables false

set_option maxRecDepth 100000 in
set_option maxHeartbeats 4000000 in
theorem halves_inner (a b : Int) (l r : Tr) (v : Value) (w : World) (h : Spots w.heap.size w (flat (.inner a b l r)) [v]) (hn : (flat (.inner a b l r)).length ≤ 1000000) :
    Calls Try.prog 85 #[v] w fun e W' => ∃ v1 v2, e = .returned (.tuple #[v1, v2, .bool true]) ∧ Spots W'.heap.size W' (flat l) [v1] ∧ Spots W'.heap.size W' (flat r) [v2] ∧ Below w.heap.size w W' := by
  have HM := Lib.hid h
  obtain ⟨A, cap, rfl, hlc, hcm, hp⟩ := spots_at h
  have hcm2 : cap ≤ 9223372036854775807 := Nat.le_trans hcm (by decide)
  obtain ⟨g, off, rfl, -, hc0, -, -⟩ := hp 0 (by simp [flat])
  replace hc0 : w.cell? ⟨g, off + 0 * 3, none⟩ = some (.bool false) := hc0
  simp only [Nat.zero_mul, Nat.add_zero] at hc0
  have hl := flat_inner_len a b l r
  obtain ⟨mid, hmid⟩ : ∃ m, 1 + (flat l).length = m := ⟨_, rfl⟩
  obtain ⟨A1, hr1, hS1⟩ := cut_mid h hlc 1 mid (by omega) (by omega)
  obtain ⟨A2, hr2, hS2⟩ := cut_from h mid (by omega)
  have e1 := drop_left a b l r
  have e2 := drop_right a b l r
  have e3 := endI_left a b l r
  rw [hmid] at e1 e2 e3
  rw [e1] at hS1
  rw [e2] at hS2
  clear e1 e2
  replace hr1 : ∀ wx, (Instr.slice 32 (.slice (some ⟨g, off, none⟩) (flat (.inner a b l r)).length cap) (some (.int .i64 1)) (some (.int .i64 ((mid : Nat) : Int))) none).run Try.prog wx = .ok (.slice A1 (mid - 1) (cap - 1)) wx := hr1
  have HR1 := Lib.hid hr1
  have HR2 := Lib.hid hr2
  have HE0 := Lib.hid (endI_flat (.inner a b l r))
  have HE1 := Lib.hid e3
  clear e3
  have HS1 := Lib.hid hS1
  have HS2 := Lib.hid hS2
  have hfl : (flat l).length ≤ 1000000 := by omega
  have hfr : (flat r).length ≤ 1000000 := by omega
  have hz : (((flat (.inner a b l r)).length : Int) == 0) = false := beq_eq_false_iff_ne.2 (by omega)
  have hlp : (0 : Int) < ((flat (.inner a b l r)).length : Int) := by omega
  clear h hp hcm hr1 hr2 hS1 hS2
  have hself : (((flat (.inner a b l r)).length : Int) == ((flat (.inner a b l r)).length : Int)) = true := by simp
  have hm1 : 1 ≤ mid := by omega
  have hm2 : mid ≤ (flat (.inner a b l r)).length := by omega
  clear hl hmid
  generalize flat (.inner a b l r) = xs at *
  go_enter Try.func85, Try.ntmps85
  go_wp2_with fail
  refine (end_any _ _ 0 w HM.out hn).mono ?_
  rintro e W1 ⟨rfl, B1⟩
  rw [HE0.out]
  go_wp2_with fail
  refine (end_any _ _ 1 W1 (keeps_spots _ _ _ _ _ _ HM.out B1 B1.size) hn).mono ?_
  rintro e W2 ⟨rfl, B2⟩
  rw [HE1.out]
  replace B2 := B1.trans (B2.mono B1.size)
  have hr1 := HR1.out
  have hr2 := HR2.out
  have B2d : Below w.heap.size w W2.drew := B2.trans ⟨rfl, rfl, rfl, Nat.le_refl _, fun _ _ => rfl⟩
  have K1 := cloneS_any _ (flat l) W2.drew (keeps_spots _ _ _ _ _ _ HS1.out B2d B2d.size) hfl
  have K2 := fun (W : World) (hW : Below w.heap.size w W) => cloneS_any _ (flat r) W (keeps_spots _ _ _ _ _ _ HS2.out hW hW.size) hfr
  go_wp2_with fail
  go_region_with (first
    | (go_at_call 48; refine (K2 _ (B2d.trans (hB3.mono B2d.size))).mono ?_; rintro e W4 ⟨v2, rfl, hv2, hB4⟩)
    | (go_at_call 48; refine K1.mono ?_; rintro e W3 ⟨v1, rfl, hv1, hB3⟩))
  all_goals
    go_wp2
    go_ret3
    exact ⟨v1, v2, rfl, keeps_spots _ _ _ _ _ _ hv1 hB4 hB4.size, hv2, (B2d.trans (hB3.mono B2d.size)).trans (hB4.mono (Nat.le_trans B2d.size hB3.size))⟩

end Go.Proofs.Ytkmlnglmecjmeaa
