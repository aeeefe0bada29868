/- lodgelaw05.GroupTables answers true, whatever number comes in, and leaves memory below as it was. No condition. -/
import Derived.Test.YtmbdidompjgaaaaAwake5
namespace Go.Proofs.Ytmbdidompjgaaaa
open Go.RowKit Go.Shelf Num
set_option linter.unusedVariables false

set_option maxRecDepth 100000 in
set_option maxHeartbeats 8000000 in
theorem groupTables_walk (g : Int) (w : World) (hg : (Lit.int .i64 g).wf = true) : Calls Try.prog 3 #[.int .i64 g] w fun e w' => e = .returned (.bool true) ∧ Below w.heap.size w w' := by
  have hl := P_len g
  have hh := half_len g
  have hq : (isG g == isG g) = true := by simp
  go_enter Try.func3, Try.ntmps3
  have B := Below.refl w.heap.size w
  go_wp2_with fail
  refine (awake5_any _).mono ?_
  rintro e W1 ⟨rfl, hb⟩
  replace B := B.trans (hb.mono B.size)
  clear hb
  go_wp2_with fail
  refine (right_any g _).mono ?_
  rintro e W2 ⟨rfl, hb⟩
  replace B := B.trans (hb.mono B.size)
  clear hb
  go_wp2_with fail
  refine (refRight_any g _).mono ?_
  rintro e W3 ⟨rfl, h3⟩
  subst h3
  go_wp2_with fail
  refine (prime_any g _).mono ?_
  rintro e W3 ⟨va, rfl, La, hb⟩
  replace B := B.trans (hb.mono B.size)
  clear hb
  obtain ⟨A1, c1, rfl, _⟩ := id La
  go_wp2_with fail
  refine (refPrime_any g _).mono ?_
  rintro e W4 ⟨vb, rfl, Lb, hb⟩
  replace La := La.next hb
  replace B := B.trans (hb.mono B.size)
  clear hb
  obtain ⟨A2, c2, rfl, _⟩ := id Lb
  go_wp2_with fail
  refine (same_any _ _ (limbs (P g)) (limbs (P g)) _ La Lb (by omega) (by omega) rfl).mono ?_
  rintro e W5 ⟨rfl, hb⟩
  replace La := La.next hb
  replace Lb := Lb.next hb
  replace B := B.trans (hb.mono B.size)
  clear hb
  go_wp2_with fail
  refine (order_any g _).mono ?_
  rintro e W6 ⟨vd, rfl, Ld, hb⟩
  replace B := B.trans (hb.mono B.size)
  clear hb
  obtain ⟨A3, c3, rfl, _⟩ := id Ld
  go_wp2_with fail
  refine (refOrder_any g _).mono ?_
  rintro e W7 ⟨ve, rfl, Le, hb⟩
  replace Ld := Ld.next hb
  replace B := B.trans (hb.mono B.size)
  clear hb
  obtain ⟨A4, c4, rfl, _⟩ := id Le
  go_wp2_with fail
  refine (same_any _ _ (limbs (P g / 2)) (limbs (P g / 2)) _ Ld Le (by omega) (by omega) rfl).mono ?_
  rintro e W8 ⟨rfl, hb⟩
  replace Ld := Ld.next hb
  replace Le := Le.next hb
  replace B := B.trans (hb.mono B.size)
  clear hb
  go_wp2
  go_ret
  exact ⟨rfl, B⟩


end Go.Proofs.Ytmbdidompjgaaaa
