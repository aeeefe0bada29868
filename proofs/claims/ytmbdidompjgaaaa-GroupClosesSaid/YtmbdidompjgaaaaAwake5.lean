/- The document's examples of layer 5 hold (lodgelaw05.awake answers true), and memory below is left as it was. No condition but those named. -/
import Derived.Test.YtmbdidompjgaaaaElem
namespace Go.Proofs.Ytmbdidompjgaaaa
open Go.RowKit Go.Shelf Num
set_option linter.unusedVariables false

theorem element_is (g : Int) (s : ByteArray) (b : Bool) (w : World) (hs : s.size ≤ 1099511627776) (hb : isEl g s.data.toList = b) :
    Calls Try.prog 15 #[.int .i64 g, .string s] w (fun e W => e = .returned (.bool b) ∧ Below w.heap.size w W) := by
  have h := element_any g s w hs
  rwa [hb] at h
theorem right_yes (g : Int) (b : Bool) (w : World) (hb : isG g = b) : Calls Try.prog 8 #[.int .i64 g] w fun e W => e = .returned (.bool b) ∧ Below w.heap.size w W := by
  have h := right_any g w
  rwa [hb] at h
theorem eg_p : limbs (P 0) = [23] := by rw [P_0]; exact limbs_1 (by omega) (by omega)
theorem eg_q : limbs (P 0 / 2) = [11] := by rw [P_0]; exact limbs_1 (by omega) (by omega)
theorem eg_g : limbs (P 5) = greatL := by rw [P_5]; exact limbs_great
theorem P_9 : P 9 = 0 := P_no (by decide) (by decide) (by decide)
theorem eg_2 : isEl 0 [2] = true := isEl_iff.2 (by rw [P_0, pm_is]; decide +kernel)
theorem eg_5 : isEl 0 [5] = false := isEl_no (by rw [P_0, pm_is]; decide +kernel)
theorem eg_1 : isEl 0 [1] = false := isEl_no (by rw [P_0, pm_is]; decide +kernel)
theorem eg_02 : isEl 0 [0, 2] = false := isEl_no (by rw [P_0, pm_is]; decide +kernel)
theorem eg_9 : isEl 9 [2] = false := isEl_no (fun h => h.1 P_9)
theorem eg_r9 : isG 9 = false := by rw [isG_is]; rfl
theorem eg_r5 : isG 5 = true := by rw [isG_is]; rfl

set_option maxRecDepth 100000 in
set_option maxHeartbeats 8000000 in
theorem awake5_any (w : World) : Calls Try.prog 7 #[] w fun e w' => e = .returned (.bool true) ∧ Below w.heap.size w w' := by
  go_enter Try.func7, Try.ntmps7
  have B := Below.refl w.heap.size w
  go_wp2_with fail
  refine (prime_any 0 _).mono ?_
  rintro e W1 ⟨va, rfl, La, hb⟩
  rw [eg_p] at La
  replace B := B.trans (hb.mono B.size)
  clear hb
  go_wp2_with fail
  refine (order_any 0 _).mono ?_
  rintro e W2 ⟨vb, rfl, Lb, hb⟩
  rw [eg_q] at Lb
  replace La := La.next hb
  replace B := B.trans (hb.mono B.size)
  clear hb
  go_wp2_with fail
  refine (prime_any 5 _).mono ?_
  rintro e W3 ⟨vc, rfl, Lc, hb⟩
  rw [eg_g] at Lc
  replace La := La.next hb
  replace Lb := Lb.next hb
  replace B := B.trans (hb.mono B.size)
  clear hb
  obtain ⟨b1, o1, c1, rfl, _, _, h1⟩ := La.at_ (by simp)
  obtain ⟨b2, o2, c2, rfl, _, _, h2⟩ := Lb.at_ (by simp)
  obtain ⟨b3, o3, c3, rfl, _, _, h3⟩ := Lc.at_ (by decide)
  have g1 : W3.cell? ⟨b1, o1, none⟩ = some (.int .u64 23) := h1 0 (by simp)
  have g2 : W3.cell? ⟨b2, o2, none⟩ = some (.int .u64 11) := h2 0 (by simp)
  have g3 : W3.cell? ⟨b3, o3, none⟩ = some (.int .u64 18446744073709551615) := h3 0 (by decide)
  have g4 : W3.cell? ⟨b3, o3 + 23, none⟩ = some (.int .u64 18446744073709551615) := h3 23 (by decide)
  have g5 : W3.cell? ⟨b3, o3 + 22, none⟩ = some (.int .u64 14488038916154245684) := h3 22 (by decide)
  have hgl : greatL.length = 24 := by decide
  rw [hgl]
  clear h1 h2 h3 La Lb Lc hgl
  go_wp2_with fail
  refine (element_is 0 _ true _ (by decide) eg_2).mono ?_
  rintro e W4 ⟨rfl, hb⟩
  replace B := B.trans (hb.mono B.size)
  clear hb
  clear g1 g2 g3 g4 g5
  go_wp2_with fail
  refine (element_is 0 _ false _ (by decide) eg_5).mono ?_
  rintro e W5 ⟨rfl, hb⟩
  replace B := B.trans (hb.mono B.size)
  clear hb
  go_wp2_with fail
  refine (element_is 0 _ false _ (by decide) eg_1).mono ?_
  rintro e W6 ⟨rfl, hb⟩
  replace B := B.trans (hb.mono B.size)
  clear hb
  go_wp2_with fail
  refine (element_is 0 _ false _ (by decide) eg_02).mono ?_
  rintro e W7 ⟨rfl, hb⟩
  replace B := B.trans (hb.mono B.size)
  clear hb
  go_wp2_with fail
  refine (element_is 9 _ false _ (by decide) eg_9).mono ?_
  rintro e W8 ⟨rfl, hb⟩
  replace B := B.trans (hb.mono B.size)
  clear hb
  go_wp2_with fail
  refine (right_yes 9 false _ eg_r9).mono ?_
  rintro e W9 ⟨rfl, hb⟩
  replace B := B.trans (hb.mono B.size)
  clear hb
  go_wp2_with fail
  refine (right_yes 5 true _ eg_r5).mono ?_
  rintro e W10 ⟨rfl, hb⟩
  replace B := B.trans (hb.mono B.size)
  clear hb
  go_wp2
  go_ret
  exact ⟨rfl, B⟩


end Go.Proofs.Ytmbdidompjgaaaa
