/- The document's examples of layer 6 hold (lodgelaw06.awake answers true), and memory below is left as it was. No condition but those named. -/
import Derived.Test.YtilbkfgbbajelaaSecR
namespace Go.Proofs.Ytilbkfgbbajelaa
open Go.RowKit Go.Shelf Num
set_option linter.unusedVariables false

theorem sright_is (g : Int) (s : ByteArray) (b : Bool) (w : World) (hb : isS g s.data.toList = b) :
    Calls Try.prog 8 #[.int .i64 g, .string s] w (fun e W => e = .returned (.bool b) ∧ Below w.heap.size w W) := by
  have h := sright_any g s w
  rwa [hb] at h
theorem sreduce_is (g : Int) (s T : ByteArray) (w : World) (hs : s.size ≤ 4000) (hb : txt (redN g (bval s.data.toList)) = T) :
    Calls Try.prog 10 #[.int .i64 g, .string s] w (fun e W => e = .returned (.string T) ∧ Below w.heap.size w W) := by
  have h := sreduce_any g s w hs
  rwa [hb] at h
theorem sblind_is (g : Int) (s T : ByteArray) (w : World) (hs : s.size ≤ 4000) (hb : txt (powN g 2 (bval s.data.toList)) = T) :
    Calls Try.prog 12 #[.int .i64 g, .string s] w (fun e W => e = .returned (.string T) ∧ Below w.heap.size w W) := by
  have h := sblind_any g s w hs
  rwa [hb] at h
theorem sagree_is (g : Int) (b s T : ByteArray) (w : World) (hb0 : b.size ≤ 4000) (hs : s.size ≤ 4000) (hb : txt (redN g (powN g (bval b.data.toList) (bval s.data.toList))) = T) :
    Calls Try.prog 14 #[.int .i64 g, .string b, .string s] w (fun e W => e = .returned (.string T) ∧ Below w.heap.size w W) := by
  have h := sagree_any g b s w hb0 hs
  rwa [hb] at h
theorem P0_ne : P 0 ≠ 0 := by rw [P_0]; decide
theorem P_9 : P 9 = 0 := P_no (by decide) (by decide) (by decide)
theorem txt_lit {n : Nat} {l : List UInt8} (h : byts n = l) : txt n = ⟨l.toArray⟩ := by rw [txt_is, h]
theorem eg_r2 : isS 0 [2] = true := isS_iff.2 (by rw [P_0]; decide +kernel)
theorem eg_ra : isS 0 [10] = true := isS_iff.2 (by rw [P_0]; decide +kernel)
theorem eg_rb : isS 0 [11] = false := isS_no (by rw [P_0]; decide +kernel)
theorem eg_r1 : isS 0 [1] = false := isS_no (by rw [P_0]; decide +kernel)
theorem eg_r02 : isS 0 [0, 2] = false := isS_no (by rw [P_0]; decide +kernel)
theorem eg_b5 : txt (powN 0 2 (bval [5])) = ⟨#[9]⟩ := txt_lit (by rw [powN_yes _ _ P0_ne, P_0, pm_is]; decide +kernel)
theorem eg_b3 : txt (powN 0 2 (bval [3])) = ⟨#[8]⟩ := txt_lit (by rw [powN_yes _ _ P0_ne, P_0, pm_is]; decide +kernel)
theorem eg_d9 : txt (redN 0 (bval [9])) = ⟨#[2]⟩ := txt_lit (by rw [redN_yes _ P0_ne, P_0]; decide +kernel)
theorem eg_a9 : txt (redN 0 (powN 0 (bval [9]) (bval [3]))) = ⟨#[9]⟩ := txt_lit (by rw [powN_yes _ _ P0_ne, redN_yes _ P0_ne, P_0, pm_is]; decide +kernel)
theorem eg_a8 : txt (redN 0 (powN 0 (bval [8]) (bval [5]))) = ⟨#[9]⟩ := txt_lit (by rw [powN_yes _ _ P0_ne, redN_yes _ P0_ne, P_0, pm_is]; decide +kernel)
theorem eg_n9 (n : Nat) : txt (redN 9 n) = ⟨#[]⟩ := txt_lit (by rw [redN_no _ P_9]; rfl)

set_option maxRecDepth 100000 in
set_option maxHeartbeats 2000000 in
theorem awake6_any (w : World) : Calls Try.prog 7 #[] w fun e w' => e = .returned (.bool true) ∧ Below w.heap.size w w' := by
  go_enter Try.func7, Try.ntmps7
  have B := Below.refl w.heap.size w
  go_wp2_with fail
  refine (sright_is 0 _ true _ eg_r2).mono ?_
  rintro e W1 ⟨rfl, hb⟩
  replace B := B.trans (hb.mono B.size)
  clear hb
  go_wp2_with fail
  refine (sright_is 0 _ true _ eg_ra).mono ?_
  rintro e W2 ⟨rfl, hb⟩
  replace B := B.trans (hb.mono B.size)
  clear hb
  go_wp2_with fail
  refine (sright_is 0 _ false _ eg_rb).mono ?_
  rintro e W3 ⟨rfl, hb⟩
  replace B := B.trans (hb.mono B.size)
  clear hb
  go_wp2_with fail
  refine (sright_is 0 _ false _ eg_r1).mono ?_
  rintro e W4 ⟨rfl, hb⟩
  replace B := B.trans (hb.mono B.size)
  clear hb
  go_wp2_with fail
  refine (sright_is 0 _ false _ eg_r02).mono ?_
  rintro e W5 ⟨rfl, hb⟩
  replace B := B.trans (hb.mono B.size)
  clear hb
  go_wp2_with fail
  refine (sblind_is 0 _ _ _ (by decide) eg_b5).mono ?_
  rintro e W6 ⟨rfl, hb⟩
  replace B := B.trans (hb.mono B.size)
  clear hb
  go_wp2_with fail
  refine (sreduce_is 0 _ _ _ (by decide) eg_d9).mono ?_
  rintro e W7 ⟨rfl, hb⟩
  replace B := B.trans (hb.mono B.size)
  clear hb
  go_wp2_with fail
  refine (sagree_is 0 _ _ _ _ (by decide) (by decide) eg_a9).mono ?_
  rintro e W8 ⟨rfl, hb⟩
  replace B := B.trans (hb.mono B.size)
  clear hb
  go_wp2_with fail
  refine (sblind_is 0 _ _ _ (by decide) eg_b3).mono ?_
  rintro e W9 ⟨rfl, hb⟩
  replace B := B.trans (hb.mono B.size)
  clear hb
  go_wp2_with fail
  refine (sagree_is 0 _ _ _ _ (by decide) (by decide) eg_a8).mono ?_
  rintro e W10 ⟨rfl, hb⟩
  replace B := B.trans (hb.mono B.size)
  clear hb
  go_wp2_with fail
  refine (sreduce_is 9 _ _ _ (by decide) (eg_n9 _)).mono ?_
  rintro e W11 ⟨rfl, hb⟩
  replace B := B.trans (hb.mono B.size)
  clear hb
  go_wp2_with fail
  refine (sagree_is 9 _ _ _ _ (by decide) (by decide) (eg_n9 _)).mono ?_
  rintro e W12 ⟨rfl, hb⟩
  replace B := B.trans (hb.mono B.size)
  clear hb
  go_wp2
  go_ret
  exact ⟨rfl, B⟩


end Go.Proofs.Ytilbkfgbbajelaa
