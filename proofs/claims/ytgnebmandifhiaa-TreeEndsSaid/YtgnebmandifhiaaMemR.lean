/- Members and views' ids read; lodge/member's and the document's. Condition: the pointer points to a Left in a state, of at most n bytes, fewer than 2^63. -/
import Derived.Test.YtgnebmandifhiaaMem
import Derived.Test.YtgnebmandifhiaaTurn
namespace Go.Proofs.Ytgnebmandifhiaa
open Go.RowKit
set_option linter.unusedVariables false

/-- What is left when a member was read, or that it went wrong. -/
def memSt (st : Option (List UInt8)) : Option (List UInt8) := if okM (numOf st 7) (numOf (numSt st 7) 2147483647) then numSt (numSt st 7) 2147483647 else none
def memOf (st : Option (List UInt8)) : Int × Int := if (memSt st).isSome then (numOf st 7, numOf (numSt st 7) 2147483647) else (0, 0)
def idSt (st : Option (List UInt8)) : Option (List UInt8) := if okV (numOf st 2147483647) (numOf (numSt st 2147483647) 7) (numOf (numSt (numSt st 2147483647) 7) 2147483647) then numSt (numSt (numSt st 2147483647) 7) 2147483647 else none
def idOf (st : Option (List UInt8)) : Int × Int × Int := if (idSt st).isSome then (numOf st 2147483647, numOf (numSt st 2147483647) 7, numOf (numSt (numSt st 2147483647) 7) 2147483647) else (0, 0, 0)

set_option maxRecDepth 100000 in
set_option maxHeartbeats 4000000 in
theorem good_any (b n : Nat) (st : Option (List UInt8)) (may : Bool) (w : World) (h : At w b n st) :
    Calls Try.prog 56 #[.pointer (some ⟨b, 0, none⟩), .bool may] w fun e W' => e = .returned (.bool (st.isSome && may)) ∧ At W' b n (if may then st else none) ∧ Only b w W' := by
  cases st with
  | some l =>
    obtain ⟨h, hn⟩ := h
    have HL := Lib.hid (h.bad (!may))
    obtain ⟨h0, h1, f0, f1⟩ := h
    cases may
    all_goals
      go_enter Try.func56, Try.ntmps56
      go_wp2
      go_ret
    · exact ⟨rfl, ⟨_, hn, HL.out⟩, (Only.refl _ _).set _ _⟩
    · exact ⟨rfl, ⟨HL.out, hn⟩, (Only.refl _ _).set _ _⟩
  | none =>
    obtain ⟨l, hn, h⟩ := h
    have HL := Lib.hid (h.bad true)
    obtain ⟨h0, h1, f0, f1⟩ := h
    have e : (if may = true then (none : Option (List UInt8)) else none) = none := by cases may <;> rfl
    rw [e]
    go_enter Try.func56, Try.ntmps56
    go_wp2
    go_ret
    exact ⟨rfl, ⟨_, hn, HL.out⟩, (Only.refl _ _).set _ _⟩

set_option maxRecDepth 100000 in
set_option maxHeartbeats 4000000 in
theorem read_any (b n : Nat) (st : Option (List UInt8)) (w : World) (h : At w b n st) (hn : n ≤ 9223372036854775807) :
    Calls Try.prog 51 #[.pointer (some ⟨b, 0, none⟩)] w fun e W' => e = .returned (vM (memOf st).1 (memOf st).2) ∧ At W' b n (memSt st) ∧ Turn b w.heap.size w W' := by
  have hlt := h.lt
  have hne : w.heap.size ≠ b := by omega
  go_enter Try.func51, Try.ntmps51
  go_wp2_with fail
  obtain ⟨W0, hW0, hA, hR, T⟩ : ∃ W0, w.alloc (.cells #[.int .i64 0, .int .i64 0] 44) = W0 ∧ At W0 b n st ∧ Box W0 w.heap.size [.int .i64 0, .int .i64 0] ∧ Turn b w.heap.size w W0 := ⟨_, rfl, h.next (below_new _ _), Box.new w _ _, turn_of (below_new _ _) b⟩
  rw [hW0]
  clear hW0 h
  refine (leftNum_st b n _ 7 W0 hA hn).mono ?_
  rintro e W1 ⟨rfl, hA, o⟩
  replace hR := hR.only o hne
  replace T := T.trans (o.turn _)
  clear o
  go_wp2_with fail
  refine (leftNum_st b n _ 2147483647 W1 hA hn).mono ?_
  rintro e W2 ⟨rfl, hA, o⟩
  replace hR := hR.only o hne
  replace T := T.trans (o.turn _)
  clear o
  have hS : memSt st = if okM (numOf st 7) (numOf (numSt st 7) 2147483647) then numSt (numSt st 7) 2147483647 else none := rfl
  have hO : memOf st = if (memSt st).isSome then (numOf st 7, numOf (numSt st 7) 2147483647) else (0, 0) := rfl
  generalize numSt (numSt st 7) 2147483647 = s2 at *
  generalize numOf (numSt st 7) 2147483647 = y at *
  generalize numOf st 7 = x at *
  go_wp2_with fail
  obtain ⟨W, hW, hM, hgM⟩ : ∃ W, W2.alloc (.cells #[.int .i64 x, .int .i64 y] 44) = W ∧ Box W W2.heap.size [.int .i64 x, .int .i64 y] ∧ Below W2.heap.size W2 W := ⟨_, rfl, Box.new W2 _ _, below_new _ _⟩
  rw [hW]
  have hg2 : w.heap.size ≤ W2.heap.size := T.size
  have hb2 : W2.heap.size ≠ b := by have := hA.lt; omega
  replace hA := hA.next hgM
  replace hR := hR.next hgM
  replace T := T.trans (turn_of (hgM.mono hg2) b)
  clear hW hgM
  refine (mright_any x y _).mono ?_
  rintro e Wr ⟨rfl, hb⟩
  have hrb : w.heap.size ≤ W.heap.size := T.size
  replace hA := hA.next hb
  replace hR := hR.next hb
  replace hM := hM.next hb
  replace T := T.trans (turn_of (hb.mono hrb) b)
  clear hb
  go_wp2_with fail
  refine (good_any b n s2 (okM x y) Wr hA).mono ?_
  rintro e Wg ⟨rfl, hA, o⟩
  replace hR := hR.only o hne
  replace hM := hM.only o hb2
  replace T := T.trans (o.turn _)
  clear o
  have m0 := hM.c 0 _ rfl
  have r0 := hR.c 0 _ rfl
  have g0 := hR.f 0 (by decide)
  have m1 := hM.c 1 _ rfl
  have r1 := hR.c 1 _ rfl
  have g1 := hR.f 1 (by decide)
  cases hk : (s2.isSome && okM x y)
  · have hz : memSt st = none := by
      rw [hS]
      cases hq : okM x y
      · rfl
      · rw [hq, Bool.and_true] at hk
        cases s2
        · rfl
        · cases hk
    rw [← hS, hz] at hA
    rw [hz, Option.isSome_none] at hO
    clear hS hk
    go_wp2
    (try simp only [Exit.inBlock, Exit.then]); refine bodyPost_ret (v := .agg #[.int .i64 0, .int .i64 0]) (by simp [results, Try.results51, go_sem, r0, r1]) rfl ?_
    rw [hO, hz]
    exact ⟨rfl, hA.keep (by rw [Below.heap_setCell _ _ _ _ (Ne.symm hne), Below.heap_setCell _ _ _ _ (Ne.symm hne)]), ((T).set (Or.inl (Nat.le_refl _)) _ _).set (Or.inl (Nat.le_refl _)) _ _⟩
  · obtain ⟨hs, hq⟩ := Bool.and_eq_true_iff.1 hk
    have hz : memSt st = s2 := by rw [hS, if_pos hq]
    rw [← hS, hz] at hA
    rw [hz, hs] at hO
    clear hS
    go_wp2
    (try simp only [Exit.inBlock, Exit.then]); refine bodyPost_ret (v := .agg #[.int .i64 x, .int .i64 y]) (by simp [results, Try.results51, go_sem, r0, r1]) rfl ?_
    rw [hO, hz]
    exact ⟨rfl, hA.keep (by rw [Below.heap_setCell _ _ _ _ (Ne.symm hne), Below.heap_setCell _ _ _ _ (Ne.symm hne)]), ((T).set (Or.inl (Nat.le_refl _)) _ _).set (Or.inl (Nat.le_refl _)) _ _⟩
set_option maxRecDepth 100000 in
set_option maxHeartbeats 4000000 in
theorem refRead_any (b n : Nat) (st : Option (List UInt8)) (w : World) (h : At w b n st) (hn : n ≤ 9223372036854775807) :
    Calls Try.prog 43 #[.pointer (some ⟨b, 0, none⟩)] w fun e W' => e = .returned (vM (memOf st).1 (memOf st).2) ∧ At W' b n (memSt st) ∧ Turn b w.heap.size w W' := by
  have hlt := h.lt
  have hne : w.heap.size ≠ b := by omega
  go_enter Try.func43, Try.ntmps43
  go_wp2_with fail
  obtain ⟨W0, hW0, hA, hR, T⟩ : ∃ W0, w.alloc (.cells #[.int .i64 0, .int .i64 0] 44) = W0 ∧ At W0 b n st ∧ Box W0 w.heap.size [.int .i64 0, .int .i64 0] ∧ Turn b w.heap.size w W0 := ⟨_, rfl, h.next (below_new _ _), Box.new w _ _, turn_of (below_new _ _) b⟩
  rw [hW0]
  clear hW0 h
  refine (rleftNum_st b n _ 7 W0 hA hn).mono ?_
  rintro e W1 ⟨rfl, hA, o⟩
  replace hR := hR.only o hne
  replace T := T.trans (o.turn _)
  clear o
  go_wp2_with fail
  refine (rleftNum_st b n _ 2147483647 W1 hA hn).mono ?_
  rintro e W2 ⟨rfl, hA, o⟩
  replace hR := hR.only o hne
  replace T := T.trans (o.turn _)
  clear o
  have hS : memSt st = if okM (numOf st 7) (numOf (numSt st 7) 2147483647) then numSt (numSt st 7) 2147483647 else none := rfl
  have hO : memOf st = if (memSt st).isSome then (numOf st 7, numOf (numSt st 7) 2147483647) else (0, 0) := rfl
  generalize numSt (numSt st 7) 2147483647 = s2 at *
  generalize numOf (numSt st 7) 2147483647 = y at *
  generalize numOf st 7 = x at *
  cases s2 with
  | none =>
    have hz : memSt st = none := by rw [hS]; split <;> rfl
    rw [hz, Option.isSome_none] at hO
    clear hS
    have hbl := hA.lt
    have hrl := hR.lt
    have hg2 : w.heap.size ≤ W2.heap.size := T.size
    have T2 := Lib.hid T
    obtain ⟨l, hl, hL⟩ := hA
    have HL := Lib.hid (hL.bad true)
    obtain ⟨h0, h1, f0, f1⟩ := hL
    have r0 := hR.c 0 _ rfl
    have g0 := hR.f 0 (by decide)
    have r1 := hR.c 1 _ rfl
    have g1 := hR.f 1 (by decide)
    go_wp2
    (try simp only [Exit.inBlock, Exit.then]); refine bodyPost_ret (v := .agg #[.int .i64 0, .int .i64 0]) (by simp [results, Try.results43, go_sem, hrl, r0, r1]) rfl ?_
    rw [hO, hz]
    exact ⟨rfl, ((show At _ b n none from ⟨l, hl, HL.out⟩).keep (by rw [Below.heap_setCell _ _ _ _ (Ne.symm hne), Below.heap_setCell _ _ _ _ (Ne.symm hne)])).next (below_new _ _), (((T2.out.set (Or.inr rfl) _ _).set (Or.inl (Nat.le_refl _)) _ _).set (Or.inl (Nat.le_refl _)) _ _).alloc (by simpa [World.setCell] using hg2) _⟩
  | some l =>
    have hbl := hA.lt
    have h1 := hA.1.g
    go_wp2_with fail
    clear h1
    obtain ⟨W, hW, hM, hgM⟩ : ∃ W, W2.alloc (.cells #[.int .i64 x, .int .i64 y] 44) = W ∧ Box W W2.heap.size [.int .i64 x, .int .i64 y] ∧ Below W2.heap.size W2 W := ⟨_, rfl, Box.new W2 _ _, below_new _ _⟩
    rw [hW]
    have hg2 : w.heap.size ≤ W2.heap.size := T.size
    have hb2 : W2.heap.size ≠ b := by have := hA.lt; omega
    replace hA := hA.next hgM
    replace hR := hR.next hgM
    replace T := T.trans (turn_of (hgM.mono hg2) b)
    clear hW hgM
    refine (refMright_any x y _).mono ?_
    rintro e Wr ⟨rfl, hb⟩
    have hrb : w.heap.size ≤ W.heap.size := T.size
    replace hA := hA.next hb
    replace hR := hR.next hb
    replace hM := hM.next hb
    replace T := T.trans (turn_of (hb.mono hrb) b)
    clear hb
    obtain ⟨hL, hl⟩ := hA
    have HL := Lib.hid hL
    have HB := Lib.hid (hL.bad true)
    obtain ⟨h0, h1, f0, f1⟩ := hL
    have m0 := hM.c 0 _ rfl
    have r0 := hR.c 0 _ rfl
    have g0 := hR.f 0 (by decide)
    have m1 := hM.c 1 _ rfl
    have r1 := hR.c 1 _ rfl
    have g1 := hR.f 1 (by decide)
    cases hk : okM x y
    · have hz : memSt st = none := by rw [hS, hk]; rfl
      rw [hz, Option.isSome_none] at hO
      clear hS
      go_wp2
      (try simp only [Exit.inBlock, Exit.then]); refine bodyPost_ret (v := .agg #[.int .i64 0, .int .i64 0]) (by simp [results, Try.results43, go_sem, r0, r1]) rfl ?_
      rw [hO, hz]
      exact ⟨rfl, (show At _ b n none from ⟨l, hl, HB.out⟩).keep (by rw [Below.heap_setCell _ _ _ _ (Ne.symm hne), Below.heap_setCell _ _ _ _ (Ne.symm hne)]), ((T.set (Or.inr rfl) _ _).set (Or.inl (Nat.le_refl _)) _ _).set (Or.inl (Nat.le_refl _)) _ _⟩
    · have hz : memSt st = some l := by rw [hS, hk]; rfl
      rw [hz, Option.isSome_some] at hO
      clear hS
      go_wp2
      (try simp only [Exit.inBlock, Exit.then]); refine bodyPost_ret (v := .agg #[.int .i64 x, .int .i64 y]) (by simp [results, Try.results43, go_sem, r0, r1]) rfl ?_
      rw [hO, hz]
      exact ⟨rfl, (show At _ b n (some l) from ⟨HL.out, hl⟩).keep (by rw [Below.heap_setCell _ _ _ _ (Ne.symm hne), Below.heap_setCell _ _ _ _ (Ne.symm hne)]), ((T).set (Or.inl (Nat.le_refl _)) _ _).set (Or.inl (Nat.le_refl _)) _ _⟩
end Go.Proofs.Ytgnebmandifhiaa
