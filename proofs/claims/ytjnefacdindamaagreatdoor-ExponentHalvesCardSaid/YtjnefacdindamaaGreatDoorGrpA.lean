/- Several texts in one: each part says what it proves, and under which conditions. -/
import Derived.Test.YtjnefacdindamaaGreatDoorRefMA
import Derived.Test.YtjnefacdindamaaGreatDoorOctFA
import Derived.Test.YtjnefacdindamaaGreatDoorNumA

/- What the functions of package group answer: Prime, Right, Order, Element; and the document's own (lodgeref05). Conditions: an element's text of less than 2^40 bytes. -/
namespace Go.Proofs.YtjnefacdindamaaGreatDoor
open Go.RowKit Go.Shelf Num
set_option linter.unusedVariables false
set_option maxRecDepth 100000

theorem al1 {w W : World} (h : Below w.heap.size w W) (o : Obj) : Below w.heap.size w (W.alloc o) := h.alloc h.size o
theorem lim_litN (w : World) (xs : List Nat) (ho : Ok xs) : Lim (w.alloc (.cells (Us xs).toArray 74)).heap.size (w.alloc (.cells (Us xs).toArray 74)) (.slice (some ⟨w.heap.size, 0, none⟩) xs.length xs.length) xs :=
  lim_of_cells (heap_last w (.cells (Us xs).toArray 74)) ho
theorem under {n : Nat} (h : n ≤ 99999) : n < M := by unfold M; omega
theorem limbs_1 {n : Nat} (h0 : n ≠ 0) (h : n ≤ 99999) : limbs n = [n] := by
  have hm : n < M := under h
  rw [limbs_pos h0, Nat.mod_eq_of_lt hm, Nat.div_eq_of_lt hm, limbs_zero]
theorem val_1n (n : Nat) : val [n] = n := by show n + M * 0 = n; omega

set_option maxRecDepth 100000 in
set_option maxHeartbeats 1000000 in
theorem greatPrime_any (w : World) : Calls Tryz.prog 100 #[] w (Gives (val greatL) w) := by
  go_enter Tryz.func100, Tryz.ntmps100
  go_wp2
  go_ret
  refine ⟨_, rfl, ?_, al1 (Below.refl _ w) _⟩
  rw [limbs_great]
  exact lim_litN w greatL great_Ok

set_option maxRecDepth 100000 in
set_option maxHeartbeats 1000000 in
theorem prime_any (g : Int) (w : World) : Calls Tryz.prog 77 #[.int .i64 g] w (Gives (P g) w) := by
  rcases P_cases g with rfl | rfl | rfl | ⟨h0, h1, h5⟩
  · go_enter Tryz.func77, Tryz.ntmps77
    go_wp2
    go_ret
    refine ⟨_, rfl, ?_, al1 (Below.refl _ w) _⟩
    rw [P_0, limbs_1 (by omega) (by omega)]
    exact lim_lit1 w 23 (under (by omega))
  · go_enter Tryz.func77, Tryz.ntmps77
    go_wp2
    go_ret
    refine ⟨_, rfl, ?_, al1 (Below.refl _ w) _⟩
    rw [P_1, limbs_1 (by omega) (by omega)]
    exact lim_lit1 w 2039 (under (by omega))
  · go_enter Tryz.func77, Tryz.ntmps77
    go_wp2_with fail
    refine (greatPrime_any w).mono ?_
    rintro e W ⟨v, rfl, L, B⟩
    go_wp2
    go_ret
    exact ⟨v, rfl, by rw [P_5]; exact L, B⟩
  · have d0 : (g == 0) = false := by simpa using h0
    have d1 : (g == 1) = false := by simpa using h1
    have d5 : (g == 5) = false := by simpa using h5
    go_enter Tryz.func77, Tryz.ntmps77
    go_wp2
    go_ret
    exact ⟨_, rfl, by rw [P_no h0 h1 h5]; exact Lim.nil _ _, Below.refl _ _⟩

theorem right_is (g : Int) : decide (0 < (limbs (P g)).length) = isG g := by
  unfold isG
  by_cases h : P g = 0
  · rw [h]; rfl
  · have := len_pos h
    rw [decide_eq_true h, decide_eq_true this]

set_option maxHeartbeats 1000000 in
theorem order_any (g : Int) (w : World) : Calls Tryz.prog 87 #[.int .i64 g] w (Gives (P g / 2) w) := by
  have hl := P_len g
  go_enter Tryz.func87, Tryz.ntmps87
  go_wp2_with fail
  refine (prime_any g w).mono ?_
  rintro e W ⟨v, rfl, L, B⟩
  obtain ⟨A, ca, rfl, _⟩ := id L
  go_wp2_with fail
  refine (divide_any _ _ (limbs (P g)) [2] _ (L.alloc _) (lim_lit1 W 2 (under (by omega))) (by omega) (by simp) (by decide +kernel)).mono ?_
  rintro e W2 ⟨vq, vr, rfl, Lq, Lr, B2⟩
  rw [val_limbs, val_1n] at Lq
  obtain ⟨A2, c2, rfl, _⟩ := id Lq
  obtain ⟨A3, c3, rfl, _⟩ := id Lr
  go_wp2
  go_ret
  exact ⟨_, rfl, Lq, (al1 B _).trans (B2.mono (al1 B _).size)⟩

end Go.Proofs.YtjnefacdindamaaGreatDoor


/- The document's own answers of layer 5 (package lodgeref05): hex, great, Right, Prime, Order. Condition: hex is asked of digits in base sixteen, at most a thousand. -/
namespace Go.Proofs.YtjnefacdindamaaGreatDoor
open Go.RowKit Go.Shelf Num
set_option linter.unusedVariables false
set_option maxRecDepth 100000

set_option exponentiation.threshold 5000 in
theorem pow16 : (16 : Nat) ^ 1000 * 16 < M ^ 64 := by decide +kernel
theorem pow16n {n m : Nat} (h : n ≤ m) : (16 : Nat) ^ n ≤ 16 ^ m := Nat.pow_le_pow_right (by decide) h

/-- What is left to bring in of a digit: the number when the bits from k on have come. -/
def bitsIn (a d k : Nat) : Nat := a * 2 ^ (4 - k) + d / 2 ^ k
theorem bits_in (a d k : Nat) (hk : k < 4) : 2 * bitsIn a d (k + 1) + d / 2 ^ k % 2 = bitsIn a d k := by
  unfold bitsIn
  have : k = 0 ∨ k = 1 ∨ k = 2 ∨ k = 3 := by omega
  rcases this with rfl | rfl | rfl | rfl <;> omega
theorem bits_start (a d : Nat) (h : d < 16) : bitsIn a d 4 = a := by
  unfold bitsIn
  rw [Nat.div_eq_of_lt (by omega)]
  simp
theorem bits_end (a d : Nat) : bitsIn a d 0 = 16 * a + d := by
  unfold bitsIn
  simp
  omega
theorem lt_16 {a p q m x : Nat} (h : a < p) (h1 : x ≤ a * 16 + 15) (h5 : p ≤ q) (h6 : q * 16 < m) : x < m := by omega
theorem bits_len {a d k n : Nat} (hd : d < 16) (hk : k ≤ 4) (h : a < 16 ^ n) (hn : n ≤ 1000) : (limbs (bitsIn a d k)).length ≤ 64 := by
  refine limbs_len ?_
  have h1 : bitsIn a d k ≤ a * 16 + 15 := by
    unfold bitsIn
    have h2 : 2 ^ (4 - k) ≤ 2 ^ 4 := Nat.pow_le_pow_right (by omega) (by omega)
    have h3 : d / 2 ^ k ≤ d := Nat.div_le_self _ _
    have h4 : a * 2 ^ (4 - k) ≤ a * 16 := Nat.mul_le_mul_left _ h2
    omega
  exact lt_16 h h1 (pow16n hn) pow16
theorem shr_bit (d k : Nat) (hd : d < 16) : (((d : Int) / 2 ^ k) % 2).toNat = d / 2 ^ k % 2 := by
  have e : (d : Int) / 2 ^ k = ((d / 2 ^ k : Nat) : Int) := by rw [Int.natCast_ediv, Int.natCast_pow]; rfl
  rw [e]
  omega

theorem shr_eq (d k : Nat) : (d : Int) / 2 ^ k = ((d / 2 ^ k : Nat) : Int) := by rw [Int.natCast_ediv, Int.natCast_pow]; rfl
theorem shr_lo (d k : Nat) : -9223372036854775808 ≤ (d : Int) / 2 ^ k := by rw [shr_eq]; exact Int.le_trans (by decide) (Int.natCast_nonneg _)
theorem shr_hi {d : Nat} (k : Nat) (h : d < 16) : (d : Int) / 2 ^ k ≤ 9223372036854775807 := by
  have := Nat.div_le_self d (2 ^ k)
  rw [shr_eq]
  omega

set_option maxRecDepth 100000 in
set_option maxHeartbeats 1000000 in
theorem hex_any (s : ByteArray) (w : World) (hs : s.size ≤ 1000) (hh : ∀ b ∈ s.data.toList, isHex b = true) :
    Calls Tryz.prog 66 #[.string s] w (Gives (hexv s.data.toList) w) := by
  have HH := Lib.hid hh
  clear hh
  go_enter Tryz.func66, Tryz.ntmps66
  have HSZ := Lib.hid (size_data s)
  go_wp2
  go_loopw [3, 4] (fun o i wr => ∃ (k : Nat), k ≤ s.size ∧ i = .int .i64 k ∧ Lim wr.heap.size wr o (limbs (hexv (s.data.toList.take k))) ∧ Below w.heap.size w wr)
    (fun _ i _ => s.size - (intOf i).toNat)
  case atStart => exact ⟨0, Nat.zero_le _, rfl, Lim.nil _ _, Below.refl _ _⟩
  case round =>
    obtain ⟨k, hk, rfl, L, B⟩ := hrel
    by_cases hlt : k < s.size
    · have hd : decide (k < s.size) = true := by simpa using hlt
      have E := get_data s k hlt
      have hl : k < s.data.toList.length := by rw [← HSZ.out]; exact hlt
      have hb := HH.out _ (List.getElem_mem hl)
      rw [← E] at hb
      have hbl := byte_lt s[k]
      rw [E] at hb hbl
      obtain ⟨dg, hdgd⟩ : ∃ dg, dg = hexd s.data.toList[k] := ⟨_, rfl⟩
      have hdl : dg < 16 := by rw [hdgd]; exact hexd_lt hb
      have hdata : s[k].toNat = s.data.toList[k].toNat := by rw [E]
      have hv1 : 65 ≤ s[k].toNat → s[k].toNat = dg + 55 := fun h => by
        rw [hdgd, hdata]
        rw [hdata] at h
        unfold hexd
        rw [if_pos h]
        omega
      have hv2 : ¬ 65 ≤ s[k].toNat → s[k].toNat = dg + 48 := fun h => by
        rw [hdgd, hdata]
        rw [hdata] at h
        unfold isHex at hb
        simp only [Bool.or_eq_true, Bool.and_eq_true, decide_eq_true_iff] at hb
        unfold hexd
        rw [if_neg h]
        omega
      have HL := Lib.hid hdl
      have HB := Lib.hid (fun l (h : l ≤ 4) => bits_len (a := hexv (s.data.toList.take k)) (n := k) hdl h (Nat.lt_of_lt_of_le (hexv_lt _ (fun b hb => HH.out b (List.mem_of_mem_take hb))) (Nat.pow_le_pow_right (by omega) (List.length_take_le _ _))) (by omega))
      have HN := Lib.hid (show hexv (s.data.toList.take (k + 1)) = 16 * hexv (s.data.toList.take k) + dg by rw [List.take_succ_eq_append_getElem hl, hexv_snoc, ← hdgd])
      clear hdgd hb hbl E hdata
      by_cases h65 : 65 ≤ s[k].toNat
      · have d65 : decide (65 ≤ ((s[k].toNat : Nat) : Int)) = true := decide_eq_true (by omega)
        have hv := hv1 h65
        have hq : ((s[k].toNat : Nat) : Int) = ((dg : Nat) : Int) + 55 := by omega
        clear hv1 hv2
        go_wp2_with fail
        rw [show ((dg : Nat) : Int) + 55 - 65 + 10 = ((dg : Nat) : Int) by omega, show decide (65 ≤ ((dg : Nat) : Int) + 55) = true from decide_eq_true (by omega)]
        go_loopw [3, 6] (fun o j wr => ∃ (l : Nat), l ≤ 4 ∧ j = .int .i64 ((l : Int) - 1) ∧ Lim wr.heap.size wr o (limbs (bitsIn (hexv (s.data.toList.take k)) dg l)) ∧ Below w.heap.size w wr)
          (fun _ j _ => (intOf j + 1).toNat)
        case atStart => exact ⟨4, Nat.le_refl _, rfl, by rw [bits_start _ _ HL.out]; exact L, B⟩
        case round =>
          obtain ⟨l, hl4, rfl, Li, Bi⟩ := hrel
          have hll := HB.out l hl4
          rcases l with _ | l
          · have hd0 : decide (0 ≤ ((0 : Nat) : Int) - 1) = false := rfl
            go_wp2_with fail
            go_roundw
            case rel => exact ⟨k + 1, by omega, by go_num, by rw [HN.out, ← bits_end]; exact Li, Bi⟩
            case measure => simp [intOf]; omega
          · have hd0 : decide (0 ≤ ((l + 1 : Nat) : Int) - 1) = true := decide_eq_true (by omega)
            have el : ((l + 1 : Nat) : Int) - 1 = (l : Int) := by omega
            rw [el]
            have hsh := Lib.hid (shr_bit dg l HL.out)
            have hmin : min l 64 = l := by omega
            obtain ⟨A, ca, rfl, _⟩ := id Li
            go_wp2_with fail
            refine (refDouble_any _ _ _ _ Li (by omega) (shr_lo dg l) (shr_hi l HL.out)).mono ?_
            rintro e W2 ⟨r, rfl, Lr, hb2⟩
            rw [val_limbs] at Lr
            go_wp2_with fail
            go_roundw
            case rel => exact ⟨l, by omega, by go_num, by rw [← bits_in _ _ l (by omega), ← hsh.out]; exact Lr, Bi.trans (hb2.mono Bi.size)⟩
            case measure => simp [intOf]
      · have d65 : decide (65 ≤ ((s[k].toNat : Nat) : Int)) = false := decide_eq_false (by omega)
        have hv := hv2 h65
        have hq : ((s[k].toNat : Nat) : Int) = ((dg : Nat) : Int) + 48 := by omega
        clear hv1 hv2
        go_wp2_with fail
        skip
        go_loopw [3, 6] (fun o j wr => ∃ (l : Nat), l ≤ 4 ∧ j = .int .i64 ((l : Int) - 1) ∧ Lim wr.heap.size wr o (limbs (bitsIn (hexv (s.data.toList.take k)) dg l)) ∧ Below w.heap.size w wr)
          (fun _ j _ => (intOf j + 1).toNat)
        case atStart => exact ⟨4, Nat.le_refl _, rfl, by rw [bits_start _ _ HL.out]; exact L, B⟩
        case round =>
          obtain ⟨l, hl4, rfl, Li, Bi⟩ := hrel
          have hll := HB.out l hl4
          rcases l with _ | l
          · have hd0 : decide (0 ≤ ((0 : Nat) : Int) - 1) = false := rfl
            go_wp2_with fail
            go_roundw
            case rel => exact ⟨k + 1, by omega, by go_num, by rw [HN.out, ← bits_end]; exact Li, Bi⟩
            case measure => simp [intOf]; omega
          · have hd0 : decide (0 ≤ ((l + 1 : Nat) : Int) - 1) = true := decide_eq_true (by omega)
            have el : ((l + 1 : Nat) : Int) - 1 = (l : Int) := by omega
            rw [el]
            have hsh := Lib.hid (shr_bit dg l HL.out)
            have hmin : min l 64 = l := by omega
            obtain ⟨A, ca, rfl, _⟩ := id Li
            go_wp2_with fail
            refine (refDouble_any _ _ _ _ Li (by omega) (shr_lo dg l) (shr_hi l HL.out)).mono ?_
            rintro e W2 ⟨r, rfl, Lr, hb2⟩
            rw [val_limbs] at Lr
            go_wp2_with fail
            go_roundw
            case rel => exact ⟨l, by omega, by go_num, by rw [← bits_in _ _ l (by omega), ← hsh.out]; exact Lr, Bi.trans (hb2.mono Bi.size)⟩
            case measure => simp [intOf]
    · obtain rfl : k = s.size := by omega
      have hd : decide (s.size < s.size) = false := by simp
      rw [HSZ.out, List.take_length] at L
      obtain ⟨A, ca, rfl, _⟩ := id L
      go_wp2
      go_ret
      exact ⟨_, rfl, L, B⟩


set_option maxRecDepth 100000 in
set_option maxHeartbeats 1000000 in
theorem great_text (w : World) : Calls Tryz.prog 67 #[] w fun e w' => ∃ s : ByteArray, e = .returned (.string s) ∧ (s.size = 384 ∧ (s.data.toList.all isHex) = true ∧ hexv s.data.toList = val greatL) ∧ w = w' := by
  go_enter Tryz.func67, Tryz.ntmps67
  go_wp2
  go_ret
  refine ⟨_, rfl, ?_, rfl⟩
  decide +kernel

set_option maxRecDepth 100000 in
set_option maxHeartbeats 1000000 in
theorem refPrime_any (g : Int) (w : World) : Calls Tryz.prog 45 #[.int .i64 g] w (Gives (P g) w) := by
  rcases P_cases g with rfl | rfl | rfl | ⟨h0, h1, h5⟩
  · go_enter Tryz.func45, Tryz.ntmps45
    go_wp2
    go_ret
    refine ⟨_, rfl, ?_, al1 (Below.refl _ w) _⟩
    rw [P_0, limbs_1 (by omega) (by omega)]
    exact lim_lit1 w 23 (under (by omega))
  · go_enter Tryz.func45, Tryz.ntmps45
    go_wp2
    go_ret
    refine ⟨_, rfl, ?_, al1 (Below.refl _ w) _⟩
    rw [P_1, limbs_1 (by omega) (by omega)]
    exact lim_lit1 w 2039 (under (by omega))
  · go_enter Tryz.func45, Tryz.ntmps45
    go_wp2_with fail
    refine (great_text w).mono ?_
    rintro e W0 ⟨s, rfl, ⟨hs1, hs2, hs3⟩, rfl⟩
    have HS2 := Lib.hid (List.all_eq_true.1 hs2)
    have HS3 := Lib.hid hs3
    clear hs2 hs3
    go_wp2_with fail
    refine (hex_any s w (by omega) HS2.out).mono ?_
    rintro e W ⟨v, rfl, L, B⟩
    rw [HS3.out] at L
    go_wp2
    go_ret
    exact ⟨v, rfl, by rw [P_5]; exact L, B⟩
  · have d0 : (g == 0) = false := by simpa using h0
    have d1 : (g == 1) = false := by simpa using h1
    have d5 : (g == 5) = false := by simpa using h5
    go_enter Tryz.func45, Tryz.ntmps45
    go_wp2
    go_ret
    exact ⟨_, rfl, by rw [P_no h0 h1 h5]; exact Lim.nil _ _, Below.refl _ _⟩

set_option maxHeartbeats 1000000 in
theorem refGRight_any (g : Int) (w : World) : Calls Tryz.prog 40 #[.int .i64 g] w fun e W => e = .returned (.bool (isG g)) ∧ w = W := by
  have HI := Lib.hid (isG_is g)
  rcases P_cases g with rfl | rfl | rfl | ⟨h0, h1, h5⟩
  · go_enter Tryz.func40, Tryz.ntmps40
    go_wp2
    go_ret
    exact ⟨by rw [HI.out]; rfl, rfl⟩
  · go_enter Tryz.func40, Tryz.ntmps40
    go_wp2
    go_ret
    exact ⟨by rw [HI.out]; rfl, rfl⟩
  · go_enter Tryz.func40, Tryz.ntmps40
    go_wp2
    go_ret
    exact ⟨by rw [HI.out]; rfl, rfl⟩
  · have d0 : (g == 0) = false := by simpa using h0
    have d1 : (g == 1) = false := by simpa using h1
    have d5 : (g == 5) = false := by simpa using h5
    go_enter Tryz.func40, Tryz.ntmps40
    go_wp2
    go_ret
    exact ⟨by rw [HI.out, decide_eq_false h0, decide_eq_false h1, decide_eq_false h5]; rfl, rfl⟩

set_option maxHeartbeats 1000000 in
theorem refOrder_any (g : Int) (w : World) : Calls Tryz.prog 43 #[.int .i64 g] w (Gives (P g / 2) w) := by
  have hl := P_len g
  go_enter Tryz.func43, Tryz.ntmps43
  go_wp2_with fail
  refine (refPrime_any g w).mono ?_
  rintro e W ⟨v, rfl, L, B⟩
  obtain ⟨A, ca, rfl, _⟩ := id L
  go_wp2_with fail
  refine (refDivide_any _ _ (limbs (P g)) [2] _ (L.alloc _) (lim_lit1 W 2 (under (by omega))) (by omega) (by simp) (by decide +kernel)).mono ?_
  rintro e W2 ⟨vq, vr, rfl, Lq, Lr, B2⟩
  rw [val_limbs, val_1n] at Lq
  obtain ⟨A2, c2, rfl, _⟩ := id Lq
  obtain ⟨A3, c3, rfl, _⟩ := id Lr
  go_wp2
  go_ret
  exact ⟨_, rfl, Lq, (al1 B _).trans (B2.mono (al1 B _).size)⟩

end Go.Proofs.YtjnefacdindamaaGreatDoor


/- group.Element and the document's (lodgeref05.Element) tell whether bytes are an element. Condition: at most 2^40 bytes. -/
namespace Go.Proofs.YtjnefacdindamaaGreatDoor
open Go.RowKit Go.Shelf Num
set_option linter.unusedVariables false
set_option maxRecDepth 100000

theorem limbs_len_bytes (l : List UInt8) {k : Nat} (h : l.length ≤ 8 * k) : (limbs (bval l)).length ≤ k := limbs_len (by
  rw [M_pow_256]
  exact Nat.lt_of_lt_of_le (bval_lt l) (Nat.pow_le_pow_right (by omega) h))
theorem cmp_le {a b : Nat} (h : a ≤ b) : decide (cmpN a b ≤ 0) = true := decide_eq_true (by
  unfold cmpN
  split
  · decide
  · rw [if_neg (by omega)]; decide)
theorem cmp_nle {a b : Nat} (h : b < a) : decide (cmpN a b ≤ 0) = false := by rw [cmpN_gt h]; rfl
theorem cmp_ge {a b : Nat} (h : b ≤ a) : decide (0 ≤ cmpN a b) = true := decide_eq_true (by
  unfold cmpN
  rw [if_neg (by omega)]
  split <;> decide)
theorem cmp_nge {a b : Nat} (h : a < b) : decide (0 ≤ cmpN a b) = false := by rw [cmpN_lt h]; rfl
theorem cmp_is (a b : Nat) : (cmpN a b == 0) = decide (a = b) := by
  by_cases h : a = b
  · subst h
    rw [cmpN_eq]
    simp
  · have h2 : cmpN a b ≠ 0 := fun e => h (cmpN_zero e)
    rw [decide_eq_false h]
    simpa using h2
theorem pm_len24 (g : Int) (a e : Nat) (h : P g ≠ 0) : (limbs (pm a e (P g))).length ≤ 24 := limbs_len (Nat.lt_trans (pm_lt _ _ (by omega)) (P_lt g))

theorem el_no {g : Int} {l : List UInt8} (h : ¬ (P g ≠ 0 ∧ l.length ≤ 400 ∧ whole l = true ∧ 1 < bval l ∧ bval l < P g ∧ pm (bval l) (P g / 2) (P g) = 1)) : Ending.returned (.bool false) = .returned (.bool (isEl g l)) := ret_bool (isEl_no h).symm
theorem el_iff' {g : Int} {l : List UInt8} (hP : P g ≠ 0) (hl : l.length ≤ 400) (hW : whole l = true) (h1 : 1 < bval l) (h2 : bval l < P g) : isEl g l = decide (pm (bval l) (P g / 2) (P g) = 1) := by
  by_cases h : pm (bval l) (P g / 2) (P g) = 1
  · rw [decide_eq_true h]
    exact isEl_iff.2 ⟨hP, hl, hW, h1, h2, h⟩
  · rw [decide_eq_false h]
    exact isEl_no fun k => h k.2.2.2.2.2

end Go.Proofs.YtjnefacdindamaaGreatDoor
