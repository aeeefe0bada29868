/- The document's examples of layer 3 hold (lodgelaw03.awake answers true), and memory below is left as it was; what the laws of layer 3 share. No condition but those named. -/
import Derived.Test.YtepdmjdhlphkcaaOctF
import Derived.Test.YtepdmjdhlphkcaaOctT
import Derived.Test.YtepdmjdhlphkcaaSame
namespace Go.Proofs.Ytepdmjdhlphkcaa
open Go.RowKit Go.Shelf Num
set_option linter.unusedVariables false

theorem eg_from : limbs (bval [1, 0, 0, 0, 0, 0, 0, 0, 2]) = [2, 1] := limbs_of _ _ (by decide +kernel) (by decide +kernel) (by decide +kernel)
theorem eg_to : byts (val [2, 1]) = [1, 0, 0, 0, 0, 0, 0, 0, 2] := by decide +kernel

set_option maxRecDepth 100000 in
set_option maxHeartbeats 4000000 in
theorem awake3_any (w : World) : Calls Try.prog 6 #[] w fun e W' => e = .returned (.bool true) ∧ Below w.heap.size w W' := by
  go_enter Try.func6, Try.ntmps6
  go_wp2_with fail
  refine (from_any _ _ (by decide)).mono ?_
  rintro e W1 ⟨r1, rfl, L1, B1⟩
  have L1' : Lim W1.heap.size W1 r1 [2, 1] := by rw [← eg_from]; exact L1
  clear L1
  obtain ⟨b, off, cap, rfl, hc, hb, hcell⟩ := L1'.at_ (by simp)
  have k0 : W1.cell? ⟨b, off, none⟩ = some (.int .u64 2) := hcell 0 (by simp)
  have k1 : W1.cell? ⟨b, off + 1, none⟩ = some (.int .u64 1) := hcell 1 (by simp)
  clear hcell
  go_wp2_with fail
  refine (to_any _ [2, 1] _ L1' (by simp)).mono ?_
  rw [eg_to]
  rintro e W2 ⟨rfl, B2⟩
  go_wp2_with fail
  refine (to_any _ [] _ (Lim.nil _ _) (by simp)).mono ?_
  rw [show byts (val []) = [] from rfl]
  rintro e W3 ⟨rfl, B3⟩
  have B := B1.trans ((B2.trans (B3.mono B2.size)).mono B1.size)
  clear B1 B2 B3 k0 k1 L1'
  go_wp2_with fail
  refine (whole_any _ _).mono ?_
  rintro e w' ⟨rfl, rfl⟩
  go_wp2_with fail
  refine (whole_any _ _).mono ?_
  rintro e w' ⟨rfl, rfl⟩
  go_wp2_with fail
  refine (whole_any _ _).mono ?_
  rintro e w' ⟨rfl, rfl⟩
  go_wp2
  go_ret
  exact ⟨rfl, B⟩

theorem from_lim {s : ByteArray} {l : List UInt8} {w : World} {e : Ending} {W' : World} (hs : s.data.toList = l) (h : Gives (bval s.data.toList) w e W') : ∃ r, e = .returned r ∧ Lim W'.heap.size W' r (limbs (bval l)) ∧ Below w.heap.size w W' := by
  rw [hs] at h; exact h
theorem text_of (l : List UInt8) : ∃ T : ByteArray, (⟨l.toArray⟩ : ByteArray) = T ∧ T.data.toList = l ∧ T.size = l.length ∧ T.toList = l := ⟨_, rfl, rfl, by rw [size_data], by rw [Lib.toList_data]⟩
theorem nought_ahead (s : ByteArray) : ((⟨#[0]⟩ : ByteArray) ++ s).data.toList = 0 :: s.data.toList := by
  rw [ByteArray.data_append]
  simp
theorem limbs_len_bytes (l : List UInt8) {k : Nat} (h : l.length ≤ 8 * k) : (limbs (bval l)).length ≤ k := limbs_len (by
  rw [M_pow_256]
  exact Nat.lt_of_lt_of_le (bval_lt l) (Nat.pow_le_pow_right (by omega) h))

end Go.Proofs.Ytepdmjdhlphkcaa
