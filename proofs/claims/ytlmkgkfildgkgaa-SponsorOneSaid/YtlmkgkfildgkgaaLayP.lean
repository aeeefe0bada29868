import Derived.Test.YtlmkgkfildgkgaaTxt
import Derived.Laws.Strings
/- Laid numbers and texts, as lists of bytes: order, beginnings, there and back. Plain arithmetic. No condition but those named. -/
namespace Go.Proofs.Ytlmkgkfildgkgaa
open Go

theorem less_step (a b : UInt8) (x y : List UInt8) : Op.bytesLess (a :: x) (b :: y) = (decide (a < b) || (a == b && Op.bytesLess x y)) := rfl
theorem u8_lt (a b : Nat) : (UInt8.ofNat a < UInt8.ofNat b) ↔ a % 256 < b % 256 := by
  rw [UInt8.lt_iff_toNat_lt]; simp
theorem u8_eq (a b : Nat) : (UInt8.ofNat a = UInt8.ofNat b) ↔ a % 256 = b % 256 := by
  rw [← UInt8.toNat_inj]; simp
theorem four_digs {m : Nat} (h : m < 4294967296) : ∃ a b c d : Nat, m / 16777216 % 256 = a ∧ m / 65536 % 256 = b ∧ m / 256 % 256 = c ∧ m % 256 = d ∧ a < 256 ∧ b < 256 ∧ c < 256 ∧ d < 256 ∧ m = a * 16777216 + b * 65536 + c * 256 + d :=
  ⟨_, _, _, _, rfl, rfl, rfl, rfl, by omega, by omega, by omega, by omega, by omega⟩
theorem be4_less {m n : Nat} (hm : m < 4294967296) (hn : n < 4294967296) : Op.bytesLess (be4 m) (be4 n) = decide (m < n) := by
  unfold be4
  rw [less_step, less_step, less_step, less_step, show Op.bytesLess [] [] = false from rfl, Bool.eq_iff_iff]
  simp only [Bool.or_eq_true, Bool.and_eq_true, decide_eq_true_eq, beq_iff_eq, u8_lt, u8_eq, Bool.and_false, Bool.or_false]
  obtain ⟨a0, a1, a2, a3, p0, p1, p2, p3, q0, q1, q2, q3, hp⟩ := four_digs hm
  obtain ⟨b0, b1, b2, b3, r0, r1, r2, r3, t0, t1, t2, t3, hr⟩ := four_digs hn
  rw [p0, p1, p2, p3, r0, r1, r2, r3]
  clear p0 p1 p2 p3 r0 r1 r2 r3
  omega
theorem layN_less {m n : Nat} (hm : m < 2147483648) (hn : n < 2147483648) : Op.bytesLess (layN (m : Int)) (layN (n : Int)) = decide (m < n) := by
  unfold layN
  rw [low31_nat m hm, low31_nat n hn, be4_less (by omega) (by omega)]
theorem nb4_layN {n : Nat} (h : n < 2147483648) (r : List UInt8) : nb4 (layN (n : Int) ++ r) = n := by
  unfold layN
  rw [low31_nat n h, nb4_be4 _ _ (by omega)]
theorem nb4_layT {l : List UInt8} (h : l.length < 2147483648) (r : List UInt8) : nb4 (layT l ++ r) = l.length := by
  unfold layT
  rw [List.append_assoc, nb4_layN h]
theorem drop_layN (n : Int) (r : List UInt8) : (layN n ++ r).drop 4 = r := by
  have : (layN n ++ r).drop (layN n).length = r := List.drop_left
  exact this
theorem drop_layT (l r : List UInt8) : (layT l ++ r).drop 4 = l ++ r := by
  unfold layT
  rw [List.append_assoc, drop_layN]
/-- Of unlike texts none's bytes begin another one's. -/
theorem layT_begins {s t : List UInt8} (hs : s.length < 2147483648) (ht : t.length < 2147483648) (h : (layT t).take (layT s).length = layT s) : s = t := by
  have e1 : nb4 (layT s ++ []) = nb4 (layT t ++ []) := by
    conv => lhs; rw [← h]
    rw [List.append_nil, List.append_nil]
    have h4 : 4 ≤ (layT s).length := by rw [layT_length]; omega
    unfold nb4
    simp only [List.getD_eq_getElem?_getD, List.getElem?_take]
    rw [if_pos (by omega), if_pos (by omega), if_pos (by omega), if_pos (by omega)]
  rw [nb4_layT hs, nb4_layT ht] at e1
  rw [List.take_of_length_le (by rw [layT_length, layT_length]; omega)] at h
  have e2 := drop_layT s []
  rw [← h, drop_layT t [], List.append_nil, List.append_nil] at e2
  exact e2.symm

end Go.Proofs.Ytlmkgkfildgkgaa
