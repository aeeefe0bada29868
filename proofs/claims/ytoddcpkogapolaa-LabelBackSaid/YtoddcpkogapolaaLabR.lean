/- The document's Right, Up and Beside of layer 10. No condition. -/
import Derived.Test.YtoddcpkogapolaaLabP
import Derived.Test.YtoddcpkogapolaaMemH
import Derived.Test.YtoddcpkogapolaaMem
namespace Go.Proofs.Ytoddcpkogapolaa
open Go Go.RowKit
set_option linter.unusedVariables false

theorem wrap_pow {k : Nat} (h : k ≤ 60) : wrap64 (2 ^ k) = ((2 ^ k : Nat) : Int) := by
  have h1 : 2 ^ k ≤ 2 ^ 60 := Nat.pow_le_pow_right (by omega) h
  have h2 : (2 : Int) ^ k = ((2 ^ k : Nat) : Int) := by simp
  rw [h2]
  generalize 2 ^ k = x at *
  have h3 : x ≤ 1152921504606846976 := h1
  unfold wrap64
  omega
set_option maxRecDepth 100000 in
set_option maxHeartbeats 4000000 in
theorem refLright_any (L I : Int) (w : World) : Calls Try.prog 13 #[vM L I] w fun e W' => e = .returned (.bool (okL L I)) ∧ Below w.heap.size w W' := by
  have B := below_new w (.cells #[.int .i64 L, .int .i64 I] 24)
  by_cases h0 : 0 ≤ L
  · by_cases h1 : L ≤ 60
    · obtain ⟨k, rfl⟩ := Int.eq_ofNat_of_zero_le h0
      have hk : k ≤ 60 := by omega
      have HP := Lib.hid (wrap_pow hk)
      by_cases h2 : 0 ≤ I
      · have HO : Hid (okL (k : Int) I = decide (I < ((2 ^ k : Nat) : Int))) := Lib.hid (by simp [okL, h1, h2])
        go_enter Try.func13, Try.ntmps13
        go_wp2
        go_ret
        exact ⟨rbool (by rw [HO.out, ← HP.out]), B⟩
      · have HO : Hid (okL (k : Int) I = false) := Lib.hid (by simp [okL, h1, h2])
        go_enter Try.func13, Try.ntmps13
        go_wp2
        go_ret
        exact ⟨rbool HO.out.symm, B⟩
    · have HO : Hid (okL L I = false) := Lib.hid (by simp [okL, h1])
      go_enter Try.func13, Try.ntmps13
      go_wp2
      go_ret
      exact ⟨rbool HO.out.symm, B⟩
  · have HO : Hid (okL L I = false) := Lib.hid (by simp [okL, h0])
    go_enter Try.func13, Try.ntmps13
    go_wp2
    go_ret
    exact ⟨rbool HO.out.symm, B⟩

theorem new2 (w : World) (cs ds : List Value) (t u : TypeId) : ∃ W0, (w.alloc (.cells cs.toArray t)).alloc (.cells ds.toArray u) = W0 ∧ Box W0 w.heap.size cs ∧ Box W0 (w.heap.size + 1) ds ∧ Below w.heap.size w W0 := by
  refine ⟨_, rfl, ?_, ?_, below_new2 _ _ _⟩
  · exact (Box.new w cs t).below (below_new _ _) (by simp)
  · have := Box.new (w.alloc (.cells cs.toArray t)) ds u
    rwa [show (w.alloc (.cells cs.toArray t)).heap.size = w.heap.size + 1 by simp] at this
theorem xor_nat (i : Nat) : i ^^^ 1 = if i % 2 = 0 then i + 1 else i - 1 := by
  have h1 : (i ^^^ 1) / 2 = i / 2 := by
    have := Nat.xor_div_two_pow (a := i) (b := 1) (n := 1)
    simpa using this
  have h2 : (i ^^^ 1) % 2 = (i + 1) % 2 := by
    have := Nat.xor_mod_two_pow (a := i) (b := 1) (n := 1)
    rw [Nat.pow_one] at this
    rw [this]
    rcases Nat.mod_two_eq_zero_or_one i with h | h
    · rw [h]; show 1 = _; omega
    · rw [h]; show 0 = _; omega
  by_cases h : i % 2 = 0
  · rw [if_pos h]; omega
  · rw [if_neg h]; omega
theorem xor_one {k i : Nat} (hk : k ≤ 60) (hi : i < 2 ^ k) : bits .xor .i64 (i : Int) 1 = if (i : Int) % 2 = 0 then (i : Int) + 1 else (i : Int) - 1 := by
  have hi2 : i < 1152921504606846976 := Nat.lt_of_lt_of_le hi (Nat.le_trans (Nat.pow_le_pow_right (by omega) hk) (by decide))
  show IntKind.i64.wrap ((BitVec.ofInt 64 (i : Int) ^^^ BitVec.ofInt 64 1).toNat : Int) = _
  have e1 : (BitVec.ofInt 64 (i : Int)).toNat = i := by rw [BitVec.toNat_ofInt]; omega
  have e2 : (BitVec.ofInt 64 (1 : Int)).toNat = 1 := by decide
  rw [BitVec.toNat_xor, e1, e2]
  have e3 : i ^^^ 1 = if i % 2 = 0 then i + 1 else i - 1 := xor_nat i
  rw [e3, IntKind.wrap_i64]
  by_cases h : i % 2 = 0
  · rw [if_pos h, if_pos (by omega)]; omega
  · rw [if_neg h, if_neg (by omega)]; omega

set_option maxRecDepth 100000 in
set_option maxHeartbeats 4000000 in
theorem refUp_any (L I : Int) (w : World) : Calls Try.prog 9 #[vM L I] w fun e W' => e = .returned (.tuple #[vM (upL L I).1.1 (upL L I).1.2, .bool (upL L I).2]) ∧ Below w.heap.size w W' := by
  go_enter Try.func9, Try.ntmps9
  go_wp2_with fail
  obtain ⟨W0, hW0, b0, b1, B⟩ := new2 w [.int .i64 L, .int .i64 I] [.int .i64 0, .int .i64 0] 24 24
  rw [hW0]
  clear hW0
  refine (refLright_any L I W0).mono ?_
  rintro e W1 ⟨rfl, hb⟩
  replace b0 := b0.next hb
  replace b1 := b1.next hb
  replace B := B.trans (hb.mono B.size)
  clear hb
  have q0 := b0.c 0 _ rfl
  have q1 := b0.c 1 _ rfl
  have r0 := b1.c 0 _ rfl
  have r1 := b1.c 1 _ rfl
  have g0 := b1.f 0 (by decide)
  have g1 := b1.f 1 (by decide)
  have SB : ∀ (a b : Value), Below w.heap.size w ((W1.setCell ⟨w.heap.size + 1, 0, none⟩ a).setCell ⟨w.heap.size + 1, 1, none⟩ b) := fun a b => (B.setCell (p := ⟨w.heap.size + 1, 0, none⟩) (Nat.le_succ _) a).setCell (p := ⟨w.heap.size + 1, 1, none⟩) (Nat.le_succ _) b
  have HB := Lib.hid SB
  clear b0 b1 B SB
  cases ho : okL L I
  · have HU : Hid (upL L I = ((0, 0), false)) := Lib.hid (by simp [upL, ho])
    clear ho
    go_wp2
    (try simp only [Exit.inBlock, Exit.then]); refine bodyPost_ret (v := .tuple #[.agg #[.int .i64 0, .int .i64 0], .bool false]) (by simp [results, Try.results9, go_sem, r0, r1]) rfl ?_
    rw [HU.out]
    exact ⟨rfl, HB.out _ _⟩
  · obtain ⟨k, i, rfl, rfl, hk, hi⟩ := (okL_iff L I).1 ho
    by_cases hk0 : k = 0
    · subst hk0
      have HU : Hid (upL ((0 : Nat) : Int) (i : Int) = ((0, 0), false)) := Lib.hid (by simp [upL])
      clear ho hk hi
      go_wp2
      (try simp only [Exit.inBlock, Exit.then]); refine bodyPost_ret (v := .tuple #[.agg #[.int .i64 0, .int .i64 0], .bool false]) (by simp [results, Try.results9, go_sem, r0, r1]) rfl ?_
      rw [HU.out]
      exact ⟨rfl, HB.out _ _⟩
    · have hne : (k : Int) ≠ 0 := by omega
      have HU : Hid (upL (k : Int) (i : Int) = (((k : Int) - 1, (i : Int) / 2), true)) := Lib.hid (by simp only [upL, ho, Bool.true_and, decide_eq_true hne, if_true])
      have hi2 : i < 1152921504606846976 := Nat.lt_of_lt_of_le hi (Nat.le_trans (Nat.pow_le_pow_right (by omega) hk) (by decide))
      have hq : wrap64 ((i : Int) / 2) = (i : Int) / 2 := by unfold wrap64; omega
      clear ho hi
      have hz : ((k : Int) == 0) = false := beq_eq_false_iff_ne.2 hne
      clear hk0 hne
      go_wp2
      (try simp only [Exit.inBlock, Exit.then]); refine bodyPost_ret (v := .tuple #[.agg #[.int .i64 ((k : Int) - 1), .int .i64 ((i : Int) / 2)], .bool true]) (by simp [results, Try.results9, go_sem, r0, r1]) rfl ?_
      rw [HU.out]
      exact ⟨rfl, HB.out _ _⟩

set_option maxRecDepth 100000 in
set_option maxHeartbeats 4000000 in
theorem refBeside_any (L I : Int) (w : World) : Calls Try.prog 11 #[vM L I] w fun e W' => e = .returned (.tuple #[vM (besL L I).1.1 (besL L I).1.2, .bool (besL L I).2]) ∧ Below w.heap.size w W' := by
  go_enter Try.func11, Try.ntmps11
  go_wp2_with fail
  obtain ⟨W0, hW0, b0, b1, B⟩ := new2 w [.int .i64 L, .int .i64 I] [.int .i64 0, .int .i64 0] 24 24
  rw [hW0]
  clear hW0
  refine (refLright_any L I W0).mono ?_
  rintro e W1 ⟨rfl, hb⟩
  replace b0 := b0.next hb
  replace b1 := b1.next hb
  replace B := B.trans (hb.mono B.size)
  clear hb
  have q0 := b0.c 0 _ rfl
  have q1 := b0.c 1 _ rfl
  have r0 := b1.c 0 _ rfl
  have r1 := b1.c 1 _ rfl
  have g0 := b1.f 0 (by decide)
  have g1 := b1.f 1 (by decide)
  have SB : ∀ (a b : Value), Below w.heap.size w ((W1.setCell ⟨w.heap.size + 1, 0, none⟩ a).setCell ⟨w.heap.size + 1, 1, none⟩ b) := fun a b => (B.setCell (p := ⟨w.heap.size + 1, 0, none⟩) (Nat.le_succ _) a).setCell (p := ⟨w.heap.size + 1, 1, none⟩) (Nat.le_succ _) b
  have HB := Lib.hid SB
  clear b0 b1 B SB
  cases ho : okL L I
  · have HU : Hid (besL L I = ((0, 0), false)) := Lib.hid (by simp [besL, ho])
    clear ho
    go_wp2
    (try simp only [Exit.inBlock, Exit.then]); refine bodyPost_ret (v := .tuple #[.agg #[.int .i64 0, .int .i64 0], .bool false]) (by simp [results, Try.results11, go_sem, r0, r1]) rfl ?_
    rw [HU.out]
    exact ⟨rfl, HB.out _ _⟩
  · obtain ⟨k, i, rfl, rfl, hk, hi⟩ := (okL_iff L I).1 ho
    by_cases hk0 : k = 0
    · subst hk0
      have HU : Hid (besL ((0 : Nat) : Int) (i : Int) = ((0, 0), false)) := Lib.hid (by simp [besL])
      clear ho hk hi
      go_wp2
      (try simp only [Exit.inBlock, Exit.then]); refine bodyPost_ret (v := .tuple #[.agg #[.int .i64 0, .int .i64 0], .bool false]) (by simp [results, Try.results11, go_sem, r0, r1]) rfl ?_
      rw [HU.out]
      exact ⟨rfl, HB.out _ _⟩
    · have hne : (k : Int) ≠ 0 := by omega
      obtain ⟨y, hy⟩ : ∃ y, (if (i : Int) % 2 = 0 then (i : Int) + 1 else (i : Int) - 1) = y := ⟨_, rfl⟩
      have HU : Hid (besL (k : Int) (i : Int) = (((k : Int), y), true)) := Lib.hid (by simp only [besL, ho, Bool.true_and, decide_eq_true hne, if_true, hy])
      have hx : bits .xor .i64 (i : Int) 1 = y := (xor_one hk hi).trans hy
      clear hy
      clear ho hi
      have hz : ((k : Int) == 0) = false := beq_eq_false_iff_ne.2 hne
      clear hk0 hne
      go_wp2
      (try simp only [Exit.inBlock, Exit.then]); refine bodyPost_ret (v := .tuple #[.agg #[.int .i64 (k : Int), .int .i64 y], .bool true]) (by simp [results, Try.results11, go_sem, r0, r1]) rfl ?_
      rw [HU.out]
      exact ⟨rfl, HB.out _ _⟩


end Go.Proofs.Ytoddcpkogapolaa
