/- The code's labels: which may be, what they are a half of, the half beside, one step down. Condition: as told. -/
import Derived.Test.YtoddcpkogapolaaLabR
import Derived.Test.YtoddcpkogapolaaLabI
namespace Go.Proofs.Ytoddcpkogapolaa
open Go Go.RowKit
set_option linter.unusedVariables false

theorem shr_zero (I : Int) {k : Nat} (hk : k ≤ 60) : (I / 2 ^ k == 0) = okL (k : Int) I := by
  have e : (2 : Int) ^ k = ((2 ^ k : Nat) : Int) := by simp
  have hp : 0 < 2 ^ k := Nat.two_pow_pos k
  rw [e]
  have ho : okL (k : Int) I = (decide (0 ≤ I) && decide (I < ((2 ^ k : Nat) : Int))) := by
    simp only [okL, Int.toNat_natCast]
    rw [decide_eq_true (show (0 : Int) ≤ (k : Int) by omega), decide_eq_true (show (k : Int) ≤ 60 by omega)]
    simp
  rw [ho]
  obtain ⟨P, hP⟩ : ∃ P : Int, ((2 ^ k : Nat) : Int) = P := ⟨_, rfl⟩
  have hp' : 0 < P := by rw [← hP]; exact Int.ofNat_lt.2 hp
  rw [hP]
  have hm := Int.mul_ediv_add_emod I P
  have h0 := Int.emod_nonneg I (show P ≠ 0 by omega)
  have h1 := Int.emod_lt_of_pos I hp'
  by_cases hz : I / P = 0
  · rw [hz] at hm ⊢
    simp at hm
    rw [decide_eq_true (show 0 ≤ I by omega), decide_eq_true (show I < P by omega)]
    rfl
  · rw [beq_eq_false_iff_ne.2 hz]
    by_cases a : 0 ≤ I
    · by_cases b : I < P
      · exact absurd (Int.ediv_eq_zero_of_lt a b) hz
      · simp [b]
    · simp [a]
set_option maxRecDepth 100000 in
set_option maxHeartbeats 4000000 in
theorem lRight_any (L I : Int) (w : World) : Calls Try.prog 12 #[vM L I] w fun e W' => e = .returned (.bool (okL L I)) ∧ Below w.heap.size w W' := by
  have B := below_new w (.cells #[.int .i64 L, .int .i64 I] 24)
  by_cases h0 : 0 ≤ L
  · by_cases h1 : L ≤ 60
    · obtain ⟨k, rfl⟩ := Int.eq_ofNat_of_zero_le h0
      have HO := Lib.hid (shr_zero I (k := k) (by omega))
      go_enter Try.func12, Try.ntmps12
      go_wp2
      go_ret
      exact ⟨rbool HO.out, B⟩
    · have HO : Hid (okL L I = false) := Lib.hid (by simp [okL, h1])
      go_enter Try.func12, Try.ntmps12
      go_wp2
      go_ret
      exact ⟨rbool HO.out.symm, B⟩
  · have HO : Hid (okL L I = false) := Lib.hid (by simp [okL, h0])
    go_enter Try.func12, Try.ntmps12
    go_wp2
    go_ret
    exact ⟨rbool HO.out.symm, B⟩

set_option maxRecDepth 100000 in
set_option maxHeartbeats 4000000 in
theorem isHalf_any (L I : Int) (w : World) : Calls Try.prog 31 #[vM L I] w fun e W' => e = .returned (.bool (okL L I && decide (L ≠ 0))) ∧ Below w.heap.size w W' := by
  go_enter Try.func31, Try.ntmps31
  go_wp2_with fail
  obtain ⟨W0, hW0, b0, B⟩ : ∃ W0, w.alloc (.cells #[.int .i64 L, .int .i64 I] 24) = W0 ∧ Box W0 w.heap.size [.int .i64 L, .int .i64 I] ∧ Below w.heap.size w W0 := ⟨_, rfl, Box.new w _ _, below_new _ _⟩
  rw [hW0]
  clear hW0
  refine (lRight_any L I W0).mono ?_
  rintro e W1 ⟨rfl, hb⟩
  replace b0 := b0.next hb
  replace B := B.trans (hb.mono B.size)
  have q0 := b0.c 0 _ rfl
  clear b0 hb
  cases ho : okL L I
  · have HE : Hid ((okL L I && decide (L ≠ 0)) = false) := Lib.hid (by rw [ho]; rfl)
    clear ho
    go_wp2
    go_ret
    exact ⟨rbool HE.out.symm, B⟩
  · obtain ⟨k, i, rfl, rfl, hk, hi⟩ := (okL_iff L I).1 ho
    by_cases hk0 : k = 0
    · subst hk0
      have HE : Hid ((okL ((0 : Nat) : Int) (i : Int) && decide (((0 : Nat) : Int) ≠ 0)) = false) := Lib.hid (by simp)
      clear ho hk hi
      go_wp2
      go_ret
      exact ⟨rbool HE.out.symm, B⟩
    · have HE : Hid ((okL (k : Int) (i : Int) && decide ((k : Int) ≠ 0)) = true) := Lib.hid (by rw [ho, decide_eq_true (show (k : Int) ≠ 0 by omega)]; rfl)
      have hp : decide (0 < k) = true := decide_eq_true (by omega)
      clear ho hk hi hk0
      go_wp2
      go_ret
      exact ⟨rbool HE.out.symm, B⟩

set_option maxRecDepth 100000 in
set_option maxHeartbeats 4000000 in
theorem lUp_any (L I : Int) (w : World) : Calls Try.prog 8 #[vM L I] w fun e W' => e = .returned (.tuple #[vM (upL L I).1.1 (upL L I).1.2, .bool (upL L I).2]) ∧ Below w.heap.size w W' := by
  go_enter Try.func8, Try.ntmps8
  go_wp2_with fail
  obtain ⟨W0, hW0, b0, b1, B⟩ := new2 w [.int .i64 L, .int .i64 I] [.int .i64 0, .int .i64 0] 24 24
  rw [hW0]
  clear hW0
  refine (isHalf_any L I W0).mono ?_
  rintro e W1 ⟨rfl, hb⟩
  replace b0 := b0.next hb
  replace b1 := b1.next hb
  replace B := B.trans (hb.mono B.size)
  clear hb
  have q0 := b0.c 0 _ rfl
  have q1 := b0.c 1 _ rfl
  have r0 := b1.c 0 _ rfl
  have r1 := b1.c 1 _ rfl
  have g0 := b1.f 0 (by decide)
  have g1 := b1.f 1 (by decide)
  have SB : ∀ (a b : Value), Below w.heap.size w ((W1.setCell ⟨w.heap.size + 1, 0, none⟩ a).setCell ⟨w.heap.size + 1, 1, none⟩ b) := fun a b => (B.setCell (p := ⟨w.heap.size + 1, 0, none⟩) (Nat.le_succ _) a).setCell (p := ⟨w.heap.size + 1, 1, none⟩) (Nat.le_succ _) b
  have HB := Lib.hid SB
  clear b0 b1 B SB
  cases hc : (okL L I && decide (L ≠ 0))
  · have HU : Hid (upL L I = ((0, 0), false)) := Lib.hid (by unfold upL; rw [hc]; rfl)
    clear hc
    go_wp2
    (try simp only [Exit.inBlock, Exit.then]); refine bodyPost_ret (v := .tuple #[.agg #[.int .i64 0, .int .i64 0], .bool false]) (by simp [results, Try.results8, go_sem, r0, r1]) rfl ?_
    rw [HU.out]
    exact ⟨rfl, HB.out _ _⟩
  · have HU : Hid (upL L I = ((L - 1, I / 2), true)) := Lib.hid (by unfold upL; rw [hc]; rfl)
    rw [Bool.and_eq_true] at hc
    obtain ⟨k, i, rfl, rfl, hk, hi⟩ := (okL_iff L I).1 hc.1
    have hi2 : i < 1152921504606846976 := Nat.lt_of_lt_of_le hi (Nat.le_trans (Nat.pow_le_pow_right (by omega) hk) (by decide))
    have hq : wrap64 ((i : Int) / 2) = (i : Int) / 2 := by unfold wrap64; omega
    clear hc hi
    go_wp2
    (try simp only [Exit.inBlock, Exit.then]); refine bodyPost_ret (v := .tuple #[.agg #[.int .i64 ((k : Int) - 1), .int .i64 ((i : Int) / 2)], .bool true]) (by simp [results, Try.results8, go_sem, r0, r1]) rfl ?_
    rw [HU.out]
    exact ⟨rfl, HB.out _ _⟩

set_option maxRecDepth 100000 in
set_option maxHeartbeats 4000000 in
theorem lBeside_any (L I : Int) (w : World) : Calls Try.prog 10 #[vM L I] w fun e W' => e = .returned (.tuple #[vM (besL L I).1.1 (besL L I).1.2, .bool (besL L I).2]) ∧ Below w.heap.size w W' := by
  go_enter Try.func10, Try.ntmps10
  go_wp2_with fail
  obtain ⟨W0, hW0, b0, b1, B⟩ := new2 w [.int .i64 L, .int .i64 I] [.int .i64 0, .int .i64 0] 24 24
  rw [hW0]
  clear hW0
  refine (isHalf_any L I W0).mono ?_
  rintro e W1 ⟨rfl, hb⟩
  replace b0 := b0.next hb
  replace b1 := b1.next hb
  replace B := B.trans (hb.mono B.size)
  clear hb
  have q0 := b0.c 0 _ rfl
  have q1 := b0.c 1 _ rfl
  have r0 := b1.c 0 _ rfl
  have r1 := b1.c 1 _ rfl
  have g0 := b1.f 0 (by decide)
  have g1 := b1.f 1 (by decide)
  have SB : ∀ (a b : Value), Below w.heap.size w ((W1.setCell ⟨w.heap.size + 1, 0, none⟩ a).setCell ⟨w.heap.size + 1, 1, none⟩ b) := fun a b => (B.setCell (p := ⟨w.heap.size + 1, 0, none⟩) (Nat.le_succ _) a).setCell (p := ⟨w.heap.size + 1, 1, none⟩) (Nat.le_succ _) b
  have HB := Lib.hid SB
  clear b0 b1 B SB
  cases hc : (okL L I && decide (L ≠ 0))
  · have HU : Hid (besL L I = ((0, 0), false)) := Lib.hid (by unfold besL; rw [hc]; rfl)
    clear hc
    go_wp2
    (try simp only [Exit.inBlock, Exit.then]); refine bodyPost_ret (v := .tuple #[.agg #[.int .i64 0, .int .i64 0], .bool false]) (by simp [results, Try.results10, go_sem, r0, r1]) rfl ?_
    rw [HU.out]
    exact ⟨rfl, HB.out _ _⟩
  · obtain ⟨y, hy⟩ : ∃ y, (if I % 2 = 0 then I + 1 else I - 1) = y := ⟨_, rfl⟩
    have HU : Hid (besL L I = ((L, y), true)) := Lib.hid (by unfold besL; rw [hc, if_pos rfl, hy])
    rw [Bool.and_eq_true] at hc
    obtain ⟨k, i, rfl, rfl, hk, hi⟩ := (okL_iff L I).1 hc.1
    have hx : bits .xor .i64 (i : Int) 1 = y := (xor_one hk hi).trans hy
    clear hc hi hy
    go_wp2
    (try simp only [Exit.inBlock, Exit.then]); refine bodyPost_ret (v := .tuple #[.agg #[.int .i64 (k : Int), .int .i64 y], .bool true]) (by simp [results, Try.results10, go_sem, r0, r1]) rfl ?_
    rw [HU.out]
    exact ⟨rfl, HB.out _ _⟩

set_option maxRecDepth 100000 in
set_option maxHeartbeats 4000000 in
theorem down_any (k i : Nat) (c : Bool) (w : World) (hk : k ≤ 60) (hi : i < 1152921504606846976) : Calls Try.prog 39 #[vM (k : Int) (i : Int), .bool c] w fun e W' => e = .returned (vM ((k + 1 : Nat) : Int) ((2 * i + (if c then 1 else 0) : Nat) : Int)) ∧ Below w.heap.size w W' := by
  cases c
  · go_enter Try.func39, Try.ntmps39
    go_wp2
    (try simp only [Exit.inBlock, Exit.then]); refine bodyPost_ret (v := .agg #[.int .i64 ((k : Int) + 1), .int .i64 (2 * (i : Int))]) (by simp [results, Try.results39, go_sem]) rfl ?_
    exact ⟨by simp, below_new2 _ _ _⟩
  · go_enter Try.func39, Try.ntmps39
    go_wp2
    (try simp only [Exit.inBlock, Exit.then]); refine bodyPost_ret (v := .agg #[.int .i64 ((k : Int) + 1), .int .i64 (2 * (i : Int) + 1)]) (by simp [results, Try.results39, go_sem]) rfl ?_
    exact ⟨by simp, below_new2 _ _ _⟩

end Go.Proofs.Ytoddcpkogapolaa
