/- group.Element and the document's (lodgeref05.Element) tell whether bytes are an element. Condition: at most 2^40 bytes. -/
import Derived.Test.YtilbkfgbbajelaaGrp
import Derived.Test.YtilbkfgbbajelaaGrpR
namespace Go.Proofs.Ytilbkfgbbajelaa
open Go.RowKit Go.Shelf Num
set_option linter.unusedVariables false

theorem limbs_len_bytes (l : List UInt8) {k : Nat} (h : l.length ≤ 8 * k) : (limbs (bval l)).length ≤ k := limbs_len (by
  rw [M_pow_256]
  exact Nat.lt_of_lt_of_le (bval_lt l) (Nat.pow_le_pow_right (by omega) h))
theorem cmp_le {a b : Nat} (h : a ≤ b) : decide (cmpN a b ≤ 0) = true := decide_eq_true (by
  unfold cmpN
  split
  · decide
  · rw [if_neg (by omega)]; decide)
theorem cmp_nle {a b : Nat} (h : b < a) : decide (cmpN a b ≤ 0) = false := by rw [cmpN_gt h]; rfl
theorem cmp_ge {a b : Nat} (h : b ≤ a) : decide (0 ≤ cmpN a b) = true := decide_eq_true (by
  unfold cmpN
  rw [if_neg (by omega)]
  split <;> decide)
theorem cmp_nge {a b : Nat} (h : a < b) : decide (0 ≤ cmpN a b) = false := by rw [cmpN_lt h]; rfl
theorem cmp_is (a b : Nat) : (cmpN a b == 0) = decide (a = b) := by
  by_cases h : a = b
  · subst h
    rw [cmpN_eq]
    simp
  · have h2 : cmpN a b ≠ 0 := fun e => h (cmpN_zero e)
    rw [decide_eq_false h]
    simpa using h2
theorem pm_len24 (g : Int) (a e : Nat) (h : P g ≠ 0) : (limbs (pm a e (P g))).length ≤ 24 := limbs_len (Nat.lt_trans (pm_lt _ _ (by omega)) (P_lt g))

theorem el_no {g : Int} {l : List UInt8} (h : ¬ (P g ≠ 0 ∧ l.length ≤ 400 ∧ whole l = true ∧ 1 < bval l ∧ bval l < P g ∧ pm (bval l) (P g / 2) (P g) = 1)) : Ending.returned (.bool false) = .returned (.bool (isEl g l)) := ret_bool (isEl_no h).symm
theorem el_iff' {g : Int} {l : List UInt8} (hP : P g ≠ 0) (hl : l.length ≤ 400) (hW : whole l = true) (h1 : 1 < bval l) (h2 : bval l < P g) : isEl g l = decide (pm (bval l) (P g / 2) (P g) = 1) := by
  by_cases h : pm (bval l) (P g / 2) (P g) = 1
  · rw [decide_eq_true h]
    exact isEl_iff.2 ⟨hP, hl, hW, h1, h2, h⟩
  · rw [decide_eq_false h]
    exact isEl_no fun k => h k.2.2.2.2.2

set_option maxRecDepth 100000 in
set_option maxHeartbeats 4000000 in
theorem refElement_none (g : Int) (s : ByteArray) (w : World) (hs : s.size ≤ 1099511627776) (hG : isG g = false) :
    Calls Try.prog 16 #[.int .i64 g, .string s] w (fun e W => e = .returned (.bool (isEl g s.data.toList)) ∧ Below w.heap.size w W) := by
  have hP : P g = 0 := by unfold isG at hG; simpa using hG
  have K := refRight_any g w
  rw [hG] at K
  go_enter Try.func16, Try.ntmps16
  go_wp2_with fail
  refine K.mono ?_
  rintro e W1 ⟨rfl, h⟩
  subst h
  have B1 := Below.refl w.heap.size w
  go_wp2
  go_ret
  exact ⟨el_no (fun h => h.1 hP), B1⟩

set_option maxRecDepth 100000 in
set_option maxHeartbeats 4000000 in
theorem refElement_part (g : Int) (s : ByteArray) (w : World) (hs : s.size ≤ 1099511627776) (hG : isG g = true) (hW : whole s.data.toList = false) :
    Calls Try.prog 16 #[.int .i64 g, .string s] w (fun e W => e = .returned (.bool (isEl g s.data.toList)) ∧ Below w.heap.size w W) := by
  have K := refRight_any g w
  rw [hG] at K
  go_enter Try.func16, Try.ntmps16
  go_wp2_with fail
  refine K.mono ?_
  rintro e W1 ⟨rfl, h⟩
  subst h
  have B1 := Below.refl w.heap.size w
  have KW := refWhole_any s w
  rw [hW] at KW
  go_wp2_with fail
  refine KW.mono ?_
  rintro e W2 ⟨rfl, h⟩
  subst h
  go_wp2
  go_ret
  exact ⟨el_no (fun h => by rw [hW] at h; exact absurd h.2.2.1 (by decide)), B1⟩

set_option maxRecDepth 100000 in
set_option maxHeartbeats 4000000 in
theorem refElement_long (g : Int) (s : ByteArray) (w : World) (hs : s.size ≤ 1099511627776) (hG : isG g = true) (hl : ¬ s.size ≤ 400) (hW : whole s.data.toList = true) :
    Calls Try.prog 16 #[.int .i64 g, .string s] w (fun e W => e = .returned (.bool (isEl g s.data.toList)) ∧ Below w.heap.size w W) := by
  have d : decide (400 < (s.size : Int)) = true := decide_eq_true (by omega)
  have K := refRight_any g w
  rw [hG] at K
  go_enter Try.func16, Try.ntmps16
  go_wp2_with fail
  refine K.mono ?_
  rintro e W1 ⟨rfl, h⟩
  subst h
  have B1 := Below.refl w.heap.size w
  have KW := refWhole_any s w
  rw [hW] at KW
  go_wp2_with fail
  refine KW.mono ?_
  rintro e W2 ⟨rfl, h⟩
  subst h
  go_wp2
  go_ret
  exact ⟨el_no (fun h => hl (by rw [size_data]; exact h.2.1)), B1⟩

set_option maxRecDepth 100000 in
set_option maxHeartbeats 4000000 in
theorem refElement_low (g : Int) (s : ByteArray) (w : World) (hs : s.size ≤ 1099511627776) (hG : isG g = true) (hl : s.size ≤ 400) (hW : whole s.data.toList = true) (h1 : bval s.data.toList ≤ 1) :
    Calls Try.prog 16 #[.int .i64 g, .string s] w (fun e W => e = .returned (.bool (isEl g s.data.toList)) ∧ Below w.heap.size w W) := by
  have d : decide (400 < (s.size : Int)) = false := decide_eq_false (by omega)
  have hP : P g ≠ 0 := by unfold isG at hG; simpa using hG
  have hl50 := limbs_len_bytes s.data.toList (k := 50) (by rw [← size_data]; omega)
  have hl24 := P_len g
  have hlh := half_len g
  have hlp := pm_len24 g (bval s.data.toList) (P g / 2) hP
  have K := refRight_any g w
  rw [hG] at K
  go_enter Try.func16, Try.ntmps16
  go_wp2_with fail
  refine K.mono ?_
  rintro e W1 ⟨rfl, h⟩
  subst h
  have B1 := Below.refl w.heap.size w
  have KW := refWhole_any s w
  rw [hW] at KW
  go_wp2_with fail
  refine KW.mono ?_
  rintro e W2 ⟨rfl, h⟩
  subst h
  go_wp2_with fail
  refine (refFrom_any s w hs).mono ?_
  rintro e W3 ⟨v3, rfl, L3, hb⟩
  have B3 := B1.trans (hb.mono B1.size)
  clear hb
  obtain ⟨A3, c3, rfl, _⟩ := id L3
  go_wp2_with fail
  refine (refPrime_any g W3).mono ?_
  rintro e W4 ⟨v4, rfl, L4, hb⟩
  replace L3 := L3.next hb
  have B4 := B3.trans (hb.mono B3.size)
  clear hb
  obtain ⟨A4, c4, rfl, _⟩ := id L4
  have KC := refCompare_any _ _ (limbs (bval s.data.toList)) [1] _ (L3.alloc _) (lim_lit1 W4 1 (under (by omega))) (by omega) (by simp)
  rw [val_limbs, val_1n] at KC
  have d1 := cmp_le h1
  go_wp2_with fail
  refine KC.mono ?_
  rintro e W5 ⟨rfl, h⟩
  subst h
  have B5 := al1 B4 (.cells #[.int .u64 1] 32)
  go_wp2
  go_ret
  exact ⟨el_no (fun h => absurd h.2.2.2.1 (by omega)), B5⟩

set_option maxRecDepth 100000 in
set_option maxHeartbeats 4000000 in
theorem refElement_high (g : Int) (s : ByteArray) (w : World) (hs : s.size ≤ 1099511627776) (hG : isG g = true) (hl : s.size ≤ 400) (hW : whole s.data.toList = true) (h1 : 1 < bval s.data.toList) (h2 : P g ≤ bval s.data.toList) :
    Calls Try.prog 16 #[.int .i64 g, .string s] w (fun e W => e = .returned (.bool (isEl g s.data.toList)) ∧ Below w.heap.size w W) := by
  have d : decide (400 < (s.size : Int)) = false := decide_eq_false (by omega)
  have hP : P g ≠ 0 := by unfold isG at hG; simpa using hG
  have hl50 := limbs_len_bytes s.data.toList (k := 50) (by rw [← size_data]; omega)
  have hl24 := P_len g
  have hlh := half_len g
  have hlp := pm_len24 g (bval s.data.toList) (P g / 2) hP
  have K := refRight_any g w
  rw [hG] at K
  go_enter Try.func16, Try.ntmps16
  go_wp2_with fail
  refine K.mono ?_
  rintro e W1 ⟨rfl, h⟩
  subst h
  have B1 := Below.refl w.heap.size w
  have KW := refWhole_any s w
  rw [hW] at KW
  go_wp2_with fail
  refine KW.mono ?_
  rintro e W2 ⟨rfl, h⟩
  subst h
  go_wp2_with fail
  refine (refFrom_any s w hs).mono ?_
  rintro e W3 ⟨v3, rfl, L3, hb⟩
  have B3 := B1.trans (hb.mono B1.size)
  clear hb
  obtain ⟨A3, c3, rfl, _⟩ := id L3
  go_wp2_with fail
  refine (refPrime_any g W3).mono ?_
  rintro e W4 ⟨v4, rfl, L4, hb⟩
  replace L3 := L3.next hb
  have B4 := B3.trans (hb.mono B3.size)
  clear hb
  obtain ⟨A4, c4, rfl, _⟩ := id L4
  have KC := refCompare_any _ _ (limbs (bval s.data.toList)) [1] _ (L3.alloc _) (lim_lit1 W4 1 (under (by omega))) (by omega) (by simp)
  rw [val_limbs, val_1n] at KC
  have d1 := cmp_nle h1
  go_wp2_with fail
  refine KC.mono ?_
  rintro e W5 ⟨rfl, h⟩
  subst h
  have B5 := al1 B4 (.cells #[.int .u64 1] 32)
  have L3b := L3.alloc (.cells #[.int .u64 1] 32)
  have L4b := L4.alloc (.cells #[.int .u64 1] 32)
  have KD := refCompare_any _ _ (limbs (bval s.data.toList)) (limbs (P g)) _ L3b L4b (by omega) (by omega)
  rw [val_limbs, val_limbs] at KD
  have d2 := cmp_ge h2
  go_wp2_with fail
  refine KD.mono ?_
  rintro e W6 ⟨rfl, h⟩
  subst h
  go_wp2
  go_ret
  exact ⟨el_no (fun h => absurd h.2.2.2.2.1 (by omega)), B5⟩

set_option maxRecDepth 100000 in
set_option maxHeartbeats 4000000 in
theorem refElement_in (g : Int) (s : ByteArray) (w : World) (hs : s.size ≤ 1099511627776) (hG : isG g = true) (hl : s.size ≤ 400) (hW : whole s.data.toList = true) (h1 : 1 < bval s.data.toList) (h2 : bval s.data.toList < P g) :
    Calls Try.prog 16 #[.int .i64 g, .string s] w (fun e W => e = .returned (.bool (isEl g s.data.toList)) ∧ Below w.heap.size w W) := by
  have d : decide (400 < (s.size : Int)) = false := decide_eq_false (by omega)
  have hP : P g ≠ 0 := by unfold isG at hG; simpa using hG
  have hl50 := limbs_len_bytes s.data.toList (k := 50) (by rw [← size_data]; omega)
  have hl24 := P_len g
  have hlh := half_len g
  have hlp := pm_len24 g (bval s.data.toList) (P g / 2) hP
  have K := refRight_any g w
  rw [hG] at K
  go_enter Try.func16, Try.ntmps16
  go_wp2_with fail
  refine K.mono ?_
  rintro e W1 ⟨rfl, h⟩
  subst h
  have B1 := Below.refl w.heap.size w
  have KW := refWhole_any s w
  rw [hW] at KW
  go_wp2_with fail
  refine KW.mono ?_
  rintro e W2 ⟨rfl, h⟩
  subst h
  go_wp2_with fail
  refine (refFrom_any s w hs).mono ?_
  rintro e W3 ⟨v3, rfl, L3, hb⟩
  have B3 := B1.trans (hb.mono B1.size)
  clear hb
  obtain ⟨A3, c3, rfl, _⟩ := id L3
  go_wp2_with fail
  refine (refPrime_any g W3).mono ?_
  rintro e W4 ⟨v4, rfl, L4, hb⟩
  replace L3 := L3.next hb
  have B4 := B3.trans (hb.mono B3.size)
  clear hb
  obtain ⟨A4, c4, rfl, _⟩ := id L4
  have KC := refCompare_any _ _ (limbs (bval s.data.toList)) [1] _ (L3.alloc _) (lim_lit1 W4 1 (under (by omega))) (by omega) (by simp)
  rw [val_limbs, val_1n] at KC
  have d1 := cmp_nle h1
  go_wp2_with fail
  refine KC.mono ?_
  rintro e W5 ⟨rfl, h⟩
  subst h
  have B5 := al1 B4 (.cells #[.int .u64 1] 32)
  have L3b := L3.alloc (.cells #[.int .u64 1] 32)
  have L4b := L4.alloc (.cells #[.int .u64 1] 32)
  have KD := refCompare_any _ _ (limbs (bval s.data.toList)) (limbs (P g)) _ L3b L4b (by omega) (by omega)
  rw [val_limbs, val_limbs] at KD
  have d2 := cmp_nge h2
  go_wp2_with fail
  refine KD.mono ?_
  rintro e W6 ⟨rfl, h⟩
  subst h
  go_wp2_with fail
  refine (refOrder_any g _).mono ?_
  rintro e W7 ⟨v7, rfl, L7, hb⟩
  have L3d := L3b.next hb
  have L4d := L4b.next hb
  have B7 := B5.trans (hb.mono B5.size)
  clear hb
  obtain ⟨A7, c7, rfl, _⟩ := id L7
  have KP := refPower_any _ _ _ (limbs (bval s.data.toList)) (limbs (P g / 2)) (limbs (P g)) W7 L3d L7 L4d (by omega) (by omega) (by omega) (by rw [val_limbs]; exact hP)
  rw [val_limbs, val_limbs, val_limbs] at KP
  go_wp2_with fail
  refine KP.mono ?_
  rintro e W8 ⟨v8, rfl, L8, hb⟩
  have B8 := B7.trans (hb.mono B7.size)
  clear hb
  obtain ⟨A8, c8, rfl, _⟩ := id L8
  have KE := refCompare_any _ _ (limbs (pm (bval s.data.toList) (P g / 2) (P g))) [1] _ (L8.alloc _) (lim_lit1 W8 1 (under (by omega))) (by omega) (by simp)
  rw [val_limbs, val_1n] at KE
  have d3 := cmp_is (pm (bval s.data.toList) (P g / 2) (P g)) 1
  go_wp2_with fail
  refine KE.mono ?_
  rintro e W9 ⟨rfl, h⟩
  subst h
  have B9 := al1 B8 (.cells #[.int .u64 1] 32)
  have hel := Lib.hid (el_iff' hP (by rw [← size_data]; exact hl) hW h1 h2)
  go_wp2
  go_ret
  exact ⟨ret_bool hel.out.symm, B9⟩

theorem refElement_any (g : Int) (s : ByteArray) (w : World) (hs : s.size ≤ 1099511627776) :
    Calls Try.prog 16 #[.int .i64 g, .string s] w (fun e W => e = .returned (.bool (isEl g s.data.toList)) ∧ Below w.heap.size w W) := by
  cases hG : isG g with
  | false => exact refElement_none g s w hs hG
  | true =>
    cases hW : whole s.data.toList with
    | false =>
      by_cases hl : s.size ≤ 400
      · exact refElement_part g s w hs hG hW
      · exact refElement_part g s w hs hG hW
    | true =>
      by_cases hl : s.size ≤ 400
      · rcases Nat.lt_or_ge 1 (bval s.data.toList) with h1 | h1
        · rcases Nat.lt_or_ge (bval s.data.toList) (P g) with h2 | h2
          · exact refElement_in g s w hs hG hl hW h1 h2
          · exact refElement_high g s w hs hG hl hW h1 h2
        · exact refElement_low g s w hs hG hl hW h1
      · exact refElement_long g s w hs hG hl hW

end Go.Proofs.Ytilbkfgbbajelaa
