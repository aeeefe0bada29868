import Derived.Test.YtlmkgkfildgkgaaMemR
import Derived.Test.YtlmkgkfildgkgaaLayP
/- Members and views' ids, there and back: plain facts. No condition but those named. -/
namespace Go.Proofs.Ytlmkgkfildgkgaa
open Go
set_option linter.unusedVariables false

theorem okC_low {n : Int} (h : okC n = true) : ((low31 n : Nat) : Int) = n := by
  simp only [okC, Bool.and_eq_true, decide_eq_true_eq] at h
  unfold low31
  omega
theorem okM_low {a b : Int} (h : okM a b = true) : ((low31 a : Nat) : Int) = a ∧ ((low31 b : Nat) : Int) = b := by
  have h2 := h
  simp only [okM, Bool.and_eq_true, decide_eq_true_eq] at h2
  refine ⟨?_, okC_low h2.2⟩
  unfold low31
  omega
theorem okV_low {a b c : Int} (h : okV a b c = true) : ((low31 a : Nat) : Int) = a ∧ ((low31 b : Nat) : Int) = b ∧ ((low31 c : Nat) : Int) = c := by
  simp only [okV, Bool.or_eq_true, Bool.and_eq_true] at h
  rcases h with h | ⟨h1, h2⟩
  · simp only [noneV, Bool.and_eq_true, beq_iff_eq] at h
    obtain ⟨⟨rfl, rfl⟩, rfl⟩ := h
    exact ⟨rfl, rfl, rfl⟩
  · exact ⟨okC_low h1, okM_low h2⟩
theorem nb4_lay (a : Int) (r : List UInt8) : nb4 (layN a ++ r) = low31 a := nb4_be4 _ _ (by have := low31_lt a; omega)
theorem hasN_lay (a : Int) (r : List UInt8) (m : Int) : hasN (layN a ++ r) false m ↔ ((low31 a : Nat) : Int) ≤ m := by
  unfold hasN
  rw [nb4_lay]
  have := low31_lt a
  have hl : 4 ≤ (layN a ++ r).length := by rw [List.length_append, layN_length]; omega
  constructor
  · intro h; exact h.2.2.2
  · intro h; exact ⟨rfl, hl, this, h⟩
theorem numOf_lay (a : Int) (r : List UInt8) (m : Int) : numOf (some (layN a ++ r)) m = if ((low31 a : Nat) : Int) ≤ m then ((low31 a : Nat) : Int) else 0 := by
  simp only [numOf, hasN_lay, nb4_lay]
theorem numSt_lay (a : Int) (r : List UInt8) (m : Int) : numSt (some (layN a ++ r)) m = if ((low31 a : Nat) : Int) ≤ m then some r else none := by
  simp only [numSt, hasN_lay, drop_layN]
/-- What may be is read as it was. -/
theorem mem_back {a b : Int} (h : okM a b = true) (r : List UInt8) : memSt (some (layM a b ++ r)) = some r ∧ memOf (some (layM a b ++ r)) = (a, b) := by
  obtain ⟨ha, hb⟩ := okM_low h
  have h2 := h
  simp only [okM, okC, Bool.and_eq_true, decide_eq_true_eq] at h2
  have e0 : numOf (some (layM a b ++ r)) 7 = a := by
    rw [layM, List.append_assoc, numOf_lay, ha, if_pos (by omega)]
  have e1 : numSt (some (layM a b ++ r)) 7 = some (layN b ++ r) := by
    rw [layM, List.append_assoc, numSt_lay, ha, if_pos (by omega)]
  have e2 : numOf (some (layN b ++ r)) 2147483647 = b := by rw [numOf_lay, hb, if_pos (by omega)]
  have e3 : numSt (some (layN b ++ r)) 2147483647 = some r := by rw [numSt_lay, hb, if_pos (by omega)]
  have s : memSt (some (layM a b ++ r)) = some r := by
    unfold memSt
    rw [e0, e1, e2, e3, if_pos h]
  refine ⟨s, ?_⟩
  unfold memOf
  rw [s, e0, e1, e2]
  rfl
theorem id_back {a b c : Int} (h : okV a b c = true) (r : List UInt8) : idSt (some (layV a b c ++ r)) = some r ∧ idOf (some (layV a b c ++ r)) = (a, b, c) := by
  obtain ⟨ha, hb, hc⟩ := okV_low h
  have h2 := h
  simp only [okV, noneV, okM, okC, Bool.or_eq_true, Bool.and_eq_true, decide_eq_true_eq, beq_iff_eq] at h2
  have e0 : numOf (some (layV a b c ++ r)) 2147483647 = a := by
    rw [layV, List.append_assoc, List.append_assoc, numOf_lay, ha, if_pos (by omega)]
  have e1 : numSt (some (layV a b c ++ r)) 2147483647 = some (layN b ++ (layN c ++ r)) := by
    rw [layV, List.append_assoc, List.append_assoc, numSt_lay, ha, if_pos (by omega)]
  have e2 : numOf (some (layN b ++ (layN c ++ r))) 7 = b := by rw [numOf_lay, hb, if_pos (by omega)]
  have e3 : numSt (some (layN b ++ (layN c ++ r))) 7 = some (layN c ++ r) := by rw [numSt_lay, hb, if_pos (by omega)]
  have e4 : numOf (some (layN c ++ r)) 2147483647 = c := by rw [numOf_lay, hc, if_pos (by omega)]
  have e5 : numSt (some (layN c ++ r)) 2147483647 = some r := by rw [numSt_lay, hc, if_pos (by omega)]
  have s : idSt (some (layV a b c ++ r)) = some r := by
    unfold idSt
    rw [e0, e1, e2, e3, e4, e5, if_pos h]
  refine ⟨s, ?_⟩
  unfold idOf
  rw [s, e0, e1, e2, e3, e4]
  rfl
/-- What was read may be; what went wrong is nobody. -/
theorem mem_none {st : Option (List UInt8)} (h : memSt st = none) : memOf st = (0, 0) := by
  unfold memOf
  rw [h]
  rfl
theorem mem_some {st : Option (List UInt8)} {r : List UInt8} (h : memSt st = some r) : okM (memOf st).1 (memOf st).2 = true := by
  have e : memOf st = (numOf st 7, numOf (numSt st 7) 2147483647) := by
    unfold memOf
    rw [h]
    rfl
  rw [e]
  unfold memSt at h
  cases hk : okM (numOf st 7) (numOf (numSt st 7) 2147483647) with
  | true => rfl
  | false => rw [hk] at h; cases h
theorem id_none {st : Option (List UInt8)} (h : idSt st = none) : idOf st = (0, 0, 0) := by
  unfold idOf
  rw [h]
  rfl
theorem id_some {st : Option (List UInt8)} {r : List UInt8} (h : idSt st = some r) : okV (idOf st).1 (idOf st).2.1 (idOf st).2.2 = true := by
  have e : idOf st = (numOf st 2147483647, numOf (numSt st 2147483647) 7, numOf (numSt (numSt st 2147483647) 7) 2147483647) := by
    unfold idOf
    rw [h]
    rfl
  rw [e]
  unfold idSt at h
  cases hk : okV (numOf st 2147483647) (numOf (numSt st 2147483647) 7) (numOf (numSt (numSt st 2147483647) 7) 2147483647) with
  | true => rfl
  | false => rw [hk] at h; cases h
/-- Unlike ones that may be have unlike bytes. -/
theorem layM_inj {a b c d : Int} (h : okM a b = true) (h' : okM c d = true) (e : layM a b = layM c d) : a = c ∧ b = d := by
  have h1 := (mem_back h []).2
  rw [e, (mem_back h' []).2] at h1
  injection h1 with h1 h2
  exact ⟨h1.symm, h2.symm⟩
theorem layV_inj {a b c d e f : Int} (h : okV a b c = true) (h' : okV d e f = true) (hh : layV a b c = layV d e f) : a = d ∧ b = e ∧ c = f := by
  have h1 := (id_back h []).2
  rw [hh, (id_back h' []).2] at h1
  injection h1 with h1 h2
  injection h2 with h2 h3
  exact ⟨h1.symm, h2.symm, h3.symm⟩
/-- The order. -/
theorem lessM_iff (a b c d : Int) : lessM a b c d = true ↔ (a < c ∨ (a = c ∧ b < d)) := by
  simp [lessM]

end Go.Proofs.Ytlmkgkfildgkgaa
