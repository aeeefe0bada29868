import Derived.Test.YtkmlnglmecjmeaaTreeKA
import Derived.Test.YtkmlnglmecjmeaaTreeR
import Derived.Test.YtkmlnglmecjmeaaLabB
/- The document's Join of two trees and Leaf; leaf and small of lodgelaw10. Condition: the slices read as spots, of at most a few. -/
namespace Go.Proofs.Ytkmlnglmecjmeaa
open Go Go.RowKit
set_option linter.unusedVariables false

set_option maxRecDepth 100000 in
theorem refLeaf_any (a b : Int) (w : World) : Calls Try.prog 16 #[vM a b] w fun e W' => ∃ v', e = .returned v' ∧ Spots W'.heap.size W' [(true, a, b)] [v'] ∧ Below w.heap.size w W' := by
  go_enter Try.func16, Try.ntmps16
  go_wp2
  go_ret
  exact ⟨_, rfl, grow_spots (one_spot _ (true, a, b) _ _ (by simp)) (by simp), below_new2 w _ _⟩
set_option maxRecDepth 100000 in
set_option maxHeartbeats 4000000 in
theorem refJoin_both (u v : Value) (a b : List Sp) (w : World) (ha : Spots w.heap.size w a [u]) (hb : Spots w.heap.size w b [v]) (h0 : a.length ≠ 0) (h1 : b.length ≠ 0) (hl : a.length + b.length ≤ 1100000) :
    Calls Try.prog 15 #[u, v] w fun e W' => ∃ v', e = .returned v' ∧ Spots W'.heap.size W' ((false, 0, 0) :: (a ++ b)) [v'] ∧ Below w.heap.size w W' := by
  have HA := Lib.hid ha
  have HB := Lib.hid hb
  obtain ⟨A, cap, rfl, hlc, hcm, -⟩ := spots_at ha
  obtain ⟨A', cap', rfl, hlc', hcm', -⟩ := spots_at hb
  clear ha hb hcm hcm'
  have h2 : ((a.length : Int) == 0) = false := beq_eq_false_iff_ne.2 (by omega)
  have h3 : ((b.length : Int) == 0) = false := beq_eq_false_iff_ne.2 (by omega)
  have B0 := below_new w (.cells #[.bool false, .int .i64 0, .int .i64 0] 56)
  have hown0 : (w.alloc (.cells #[.bool false, .int .i64 0, .int .i64 0] 56)).ownsRow w.heap.size 56 3 (.slice (some ⟨w.heap.size, 0, none⟩) 1 1) 1 [.bool false, .int .i64 0, .int .i64 0] :=
    ⟨rfl, .inr ⟨w.heap.size, 1, #[.bool false, .int .i64 0, .int .i64 0], rfl, Nat.le_refl _, heap_alloc_new w _, Nat.le_refl _, by decide, rfl, rfl⟩⟩
  have HA1 := Lib.hid (keeps_spots _ _ _ _ _ _ HA.out B0 B0.size)
  have HO := Lib.hid hown0
  clear hown0
  go_enter Try.func15, Try.ntmps15
  go_wp2_with (at_builtin; refine append_spots _ rfl _ _ rfl w.heap.size _ _ _ rfl HO.out _ _ _ rfl HA1.out ?c1 ?c2 ?_)
  case c1 => omega
  case c2 => simp
  intro v1 w1 hown1 hgr1
  have B1 := B0.grown hgr1 (by simp) (by intro k hk; simp [Value.ownBlock] at hk; omega)
  have HB1 := Lib.hid (keeps_spots _ _ _ _ _ _ HB.out B1 B1.size)
  have HO1 := Lib.hid hown1
  clear hown1 hgr1
  go_wp2_with (at_builtin; refine append_spots _ rfl _ _ rfl w.heap.size _ _ _ rfl HO1.out _ _ _ rfl HB1.out ?c3 ?c4 ?_)
  case c3 => omega
  case c4 => exact B1.size
  intro v2 w2 hown2 hgr2
  have B2 := B1.grown hgr2 B1.size (fun k hk => (HO1.out.lt k hk).1)
  have HO2 : Hid (w2.ownsRow w.heap.size 56 3 v2 ((false, 0, 0) :: (a ++ b)).length (((false, 0, 0) :: (a ++ b)).flatMap spC)) := Lib.hid (by
    have e1 : ((false, 0, 0) :: (a ++ b) : List Sp).length = 1 + a.length + b.length := by simp; omega
    have e2 : (((false, 0, 0) :: (a ++ b) : List Sp)).flatMap spC = [.bool false, .int .i64 0, .int .i64 0] ++ a.flatMap spC ++ b.flatMap spC := by simp
    rw [e1, e2]
    exact hown2)
  clear hown2 hgr2
  go_wp2
  go_ret
  exact ⟨_, rfl, own_spots HO2.out, B2⟩

end Go.Proofs.Ytkmlnglmecjmeaa
