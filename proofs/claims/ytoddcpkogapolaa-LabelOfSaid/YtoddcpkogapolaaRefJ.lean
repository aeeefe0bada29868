/- The document's Join of two trees and Leaf; leaf and small of lodgelaw10. Condition: the slices read as spots, of at most a few. -/
import Derived.Test.YtoddcpkogapolaaTreeX
import Derived.Test.YtoddcpkogapolaaTreeR
import Derived.Test.YtoddcpkogapolaaLabP
namespace Go.Proofs.Ytoddcpkogapolaa
open Go Go.RowKit
set_option linter.unusedVariables false

set_option maxRecDepth 100000 in
theorem refLeaf_any (a b : Int) (w : World) : Calls Try.prog 28 #[vM a b] w fun e W' => ∃ v', e = .returned v' ∧ Spots W'.heap.size W' [(true, a, b)] [v'] ∧ Below w.heap.size w W' := by
  go_enter Try.func28, Try.ntmps28
  go_wp2
  go_ret
  exact ⟨_, rfl, grow_spots (one_spot _ (true, a, b) _ _ (by simp)) (by simp), below_new2 w _ _⟩
set_option maxRecDepth 100000 in
theorem law10Leaf_any (a : Int) (w : World) : Calls Try.prog 32 #[.int .i64 a] w fun e W' => ∃ v', e = .returned v' ∧ Spots W'.heap.size W' [(true, a, 1)] [v'] ∧ Below w.heap.size w W' := by
  go_enter Try.func32, Try.ntmps32
  go_wp2_with fail
  refine (refLeaf_any a 1 w).mono ?_
  rintro e W1 ⟨v', rfl, h, B⟩
  go_wp2
  go_ret
  exact ⟨_, rfl, h, B⟩
set_option maxRecDepth 100000 in
set_option maxHeartbeats 4000000 in
theorem refJoin_both (u v : Value) (a b : List Sp) (w : World) (ha : Spots w.heap.size w a [u]) (hb : Spots w.heap.size w b [v]) (h0 : a.length ≠ 0) (h1 : b.length ≠ 0) (hl : a.length + b.length ≤ 900000) :
    Calls Try.prog 29 #[u, v] w fun e W' => ∃ v', e = .returned v' ∧ Spots W'.heap.size W' ((false, 0, 0) :: (a ++ b)) [v'] ∧ Below w.heap.size w W' := by
  have HA := Lib.hid ha
  have HB := Lib.hid hb
  obtain ⟨A, cap, rfl, hlc, hcm, -⟩ := spots_at ha
  obtain ⟨A', cap', rfl, hlc', hcm', -⟩ := spots_at hb
  clear ha hb hcm hcm'
  have h2 : ((a.length : Int) == 0) = false := beq_eq_false_iff_ne.2 (by omega)
  have h3 : ((b.length : Int) == 0) = false := beq_eq_false_iff_ne.2 (by omega)
  have B0 := below_new w (.cells #[.bool false, .int .i64 0, .int .i64 0] 52)
  have hown0 : (w.alloc (.cells #[.bool false, .int .i64 0, .int .i64 0] 52)).ownsRow w.heap.size 52 3 (.slice (some ⟨w.heap.size, 0, none⟩) 1 1) 1 [.bool false, .int .i64 0, .int .i64 0] :=
    ⟨rfl, .inr ⟨w.heap.size, 1, #[.bool false, .int .i64 0, .int .i64 0], rfl, Nat.le_refl _, heap_alloc_new w _, Nat.le_refl _, by decide, rfl, rfl⟩⟩
  have HA1 := Lib.hid (keeps_spots _ _ _ _ _ _ HA.out B0 B0.size)
  have HO := Lib.hid hown0
  clear hown0
  go_enter Try.func29, Try.ntmps29
  go_wp2_with (at_builtin; refine append_spots _ rfl _ _ rfl w.heap.size _ _ _ rfl HO.out _ _ _ rfl HA1.out ?c1 ?c2 ?_)
  case c1 => omega
  case c2 => simp
  intro v1 w1 hown1 hgr1
  have B1 := B0.grown hgr1 (by simp) (by intro k hk; simp [Value.ownBlock] at hk; omega)
  have HB1 := Lib.hid (keeps_spots _ _ _ _ _ _ HB.out B1 B1.size)
  have HO1 := Lib.hid hown1
  clear hown1 hgr1
  go_wp2_with (at_builtin; refine append_spots _ rfl _ _ rfl w.heap.size _ _ _ rfl HO1.out _ _ _ rfl HB1.out ?c3 ?c4 ?_)
  case c3 => omega
  case c4 => exact B1.size
  intro v2 w2 hown2 hgr2
  have B2 := B1.grown hgr2 B1.size (fun k hk => (HO1.out.lt k hk).1)
  have HO2 : Hid (w2.ownsRow w.heap.size 52 3 v2 ((false, 0, 0) :: (a ++ b)).length (((false, 0, 0) :: (a ++ b)).flatMap spC)) := Lib.hid (by
    have e1 : ((false, 0, 0) :: (a ++ b) : List Sp).length = 1 + a.length + b.length := by simp; omega
    have e2 : (((false, 0, 0) :: (a ++ b) : List Sp)).flatMap spC = [.bool false, .int .i64 0, .int .i64 0] ++ a.flatMap spC ++ b.flatMap spC := by simp
    rw [e1, e2]
    exact hown2)
  clear hown2 hgr2
  go_wp2
  go_ret
  exact ⟨_, rfl, own_spots HO2.out, B2⟩
set_option maxRecDepth 100000 in
set_option maxHeartbeats 4000000 in
theorem small10_any (xs : List Sp) : ∃ b : Bool, (b = true → ∃ ot, xs = spo ot ∧ okT (spo ot) = true ∧ htO ot ≤ 60) ∧ ∀ (v : Value) (w : World), Spots w.heap.size w xs [v] →
    Calls Try.prog 15 #[v] w fun e W' => e = .returned (.bool b) ∧ Below w.heap.size w W' := by
  by_cases h1 : xs.length ≤ 128
  · cases hox : okT xs with
    | false =>
      refine ⟨false, (fun h => by cases h), fun v w h => ?_⟩
      have HX := Lib.hid h
      obtain ⟨A, cap, rfl, hlc, hcm, -⟩ := spots_at h
      have hd : decide (xs.length ≤ 128) = true := decide_eq_true h1
      have hd2 : decide ((xs.length : Int) ≤ 128) = true := decide_eq_true (by omega)
      clear h hcm
      go_enter Try.func15, Try.ntmps15
      go_wp2_with fail
      refine (refRight_any _ xs w HX.out (by omega)).mono ?_
      rintro e W1 ⟨rfl, B⟩
      rw [hox]
      clear hox
      go_wp2
      go_ret
      exact ⟨rfl, B⟩
    | true =>
      obtain ⟨ot, rfl⟩ := spo_of hox
      refine ⟨decide (htO ot ≤ 60), (fun h => ⟨ot, rfl, hox, of_decide_eq_true h⟩), fun v w h => ?_⟩
      have HX := Lib.hid h
      have KH : Hid (∀ v w, Spots w.heap.size w (spo ot) [v] → Calls Try.prog 30 #[v] w fun e W' => e = .returned (.int .i64 (htO ot)) ∧ Below w.heap.size w W') := Lib.hid fun v w h => by
        cases ot with
        | none => exact refHeight_nil v w h
        | some t => exact refHeight_flat t v w h (Nat.le_trans h1 (by decide))
      obtain ⟨A, cap, rfl, hlc, hcm, -⟩ := spots_at h
      have hd : decide ((spo ot).length ≤ 128) = true := decide_eq_true h1
      have hd2 : decide (((spo ot).length : Int) ≤ 128) = true := decide_eq_true (by omega)
      clear h hcm
      go_enter Try.func15, Try.ntmps15
      go_wp2_with fail
      refine (refRight_any _ _ w HX.out (by omega)).mono ?_
      rintro e W1 ⟨rfl, B⟩
      rw [hox]
      clear hox
      go_wp2_with fail
      refine (KH.out _ W1 (keeps_spots _ _ _ _ _ _ HX.out B B.size)).mono ?_
      rintro e W2 ⟨rfl, B2⟩
      go_wp2
      go_ret
      exact ⟨rfl, B.trans (B2.mono B.size)⟩
  · refine ⟨false, (fun h => by cases h), fun v w h => ?_⟩
    obtain ⟨A, cap, rfl, hlc, hcm, -⟩ := spots_at h
    have hd : decide (xs.length ≤ 128) = false := decide_eq_false h1
    have hd2 : decide ((xs.length : Int) ≤ 128) = false := decide_eq_false (by omega)
    clear h hcm
    go_enter Try.func15, Try.ntmps15
    go_wp2
    go_ret
    exact ⟨rfl, Below.refl _ _⟩

end Go.Proofs.Ytoddcpkogapolaa
