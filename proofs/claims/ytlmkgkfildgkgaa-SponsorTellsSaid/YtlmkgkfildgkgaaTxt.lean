import Derived.Lib.Strings
import Derived.Laws.Concat
import Derived.Laws.BitsAllLaws
import Derived.Laws.BitsLemmas
/- Texts as lists of bytes; four bytes as a number, and back. Plain arithmetic: imports nothing of the program. No condition but those named. -/
namespace Go.Proofs.Ytlmkgkfildgkgaa
open Go

/-- The text of these bytes. -/
@[irreducible] def tx (l : List UInt8) : ByteArray := ⟨l.toArray⟩
theorem tx_is (l : List UInt8) : tx l = ⟨l.toArray⟩ := by unfold tx; rfl
theorem tx_data (l : List UInt8) : (tx l).data.toList = l := by rw [tx_is]
theorem tx_list (l : List UInt8) : (tx l).toList = l := by rw [Lib.toList_data, tx_data]
theorem tx_size (l : List UInt8) : (tx l).size = l.length := by rw [Lib.size_eq, tx_data]
theorem tx_of (s : ByteArray) : s = tx s.data.toList := by rw [tx_is, Lib.mk_data]
theorem tx_app (a b : List UInt8) : tx a ++ tx b = tx (a ++ b) := by
  rw [tx_is, tx_is, tx_is, ByteArray.mk_append_mk]
theorem tx_cut (l : List UInt8) (i j : Nat) : (tx l).extract i j = tx ((l.drop i).take (j - i)) := by rw [Lib.extract_eq, tx_data, tx_is]
theorem tx_take (l : List UInt8) (k : Nat) : (tx l).extract 0 k = tx (l.take k) := by rw [tx_cut]; simp
theorem tx_drop (l : List UInt8) (k : Nat) : (tx l).extract k (tx l).size = tx (l.drop k) := by
  rw [tx_cut, tx_size, List.take_of_length_le (by simp)]
theorem tx_get (l : List UInt8) (k : Nat) (h : k < (tx l).size) : (tx l)[k] = l[k]'(by rw [← tx_size]; exact h) := by
  have e : (tx l)[k] = (tx l).data.toList[k]'(by rw [tx_data, ← tx_size]; exact h) := by rw [Array.getElem_toList]; rfl
  rw [e]
  simp only [tx_data]
/-- A sum of two texts that the machine can hold. -/
theorem tx_room {a b : List UInt8} (h : a.length + b.length ≤ 9223372036854775807) : ¬ (9223372036854775807 < (tx a).size + (tx b).size) := by
  rw [tx_size, tx_size]; omega
theorem tx_eq (a b : List UInt8) : ((tx a).toList == (tx b).toList) = (a == b) := by rw [tx_list, tx_list]
theorem tx_inj {a b : List UInt8} (h : tx a = tx b) : a = b := by rw [← tx_data a, h, tx_data]

/-- Four bytes of a number below 2^32, the highest first. -/
def be4 (n : Nat) : List UInt8 := [UInt8.ofNat (n / 16777216), UInt8.ofNat (n / 65536), UInt8.ofNat (n / 256), UInt8.ofNat n]
theorem be4_length (n : Nat) : (be4 n).length = 4 := rfl
/-- The number of the first four bytes; of fewer, of what there is and noughts. -/
def nb4 (l : List UInt8) : Nat := (l.getD 0 0).toNat * 16777216 + (l.getD 1 0).toNat * 65536 + (l.getD 2 0).toNat * 256 + (l.getD 3 0).toNat
theorem nb4_lt (l : List UInt8) : nb4 l < 4294967296 := by
  unfold nb4
  have h0 := (l.getD 0 0).toNat_lt
  have h1 := (l.getD 1 0).toNat_lt
  have h2 := (l.getD 2 0).toNat_lt
  have h3 := (l.getD 3 0).toNat_lt
  omega
theorem nb4_be4 (n : Nat) (r : List UInt8) (h : n < 4294967296) : nb4 (be4 n ++ r) = n := by
  simp [nb4, be4]
  omega
theorem be4_inj {m n : Nat} (hm : m < 4294967296) (hn : n < 4294967296) (h : be4 m = be4 n) : m = n := by
  rw [← nb4_be4 m [] hm, h, nb4_be4 n [] hn]
/-- What is laid of any whole number: its lowest 31 bits. -/
def low31 (n : Int) : Nat := (n % 2147483648).toNat
theorem low31_lt (n : Int) : low31 n < 2147483648 := by unfold low31; omega
theorem low31_nat (n : Nat) (h : n < 2147483648) : low31 (n : Int) = n := by unfold low31; omega
/-- A number as bytes. -/
def layN (n : Int) : List UInt8 := be4 (low31 n)
theorem layN_length (n : Int) : (layN n).length = 4 := rfl
/-- A text as bytes. -/
def layT (l : List UInt8) : List UInt8 := layN (l.length : Int) ++ l
theorem layT_length (l : List UInt8) : (layT l).length = 4 + l.length := by simp [layT, layN_length]

theorem and31 (x : Nat) : x &&& 2147483647 = x % 2147483648 := Nat.and_two_pow_sub_one_eq_mod x 31
theorem or_low {a b t : Nat} (hb : b < 2 ^ t) : a * 2 ^ t ||| b = a * 2 ^ t + b := by
  rw [Nat.mul_comm a, ← Nat.two_pow_add_eq_or_of_lt hb]

theorem join_u32 {a b c d : Nat} (ha : a < 256) (hb : b < 256) (hc : c < 256) (hd : d < 256) :
    bits BinOp.or IntKind.u32 (bits BinOp.or IntKind.u32 (bits BinOp.or IntKind.u32 ((a : Int) % 4294967296 * 16777216 % 4294967296) ((b : Int) % 4294967296 * 65536 % 4294967296)) ((c : Int) % 4294967296 * 256 % 4294967296)) ((d : Int) % 4294967296) = ((a * 16777216 + b * 65536 + c * 256 + d : Nat) : Int) := by
  have e0 : (a : Int) % 4294967296 * 16777216 % 4294967296 = ((a * 16777216 : Nat) : Int) := by omega
  have e1 : (b : Int) % 4294967296 * 65536 % 4294967296 = ((b * 65536 : Nat) : Int) := by omega
  have e2 : (c : Int) % 4294967296 * 256 % 4294967296 = ((c * 256 : Nat) : Int) := by omega
  have e3 : (d : Int) % 4294967296 = (d : Int) := by omega
  rw [e0, e1, e2, e3]
  have o1 : a * 16777216 ||| b * 65536 = a * 16777216 + b * 65536 := by
    have := or_low (a := a) (b := b * 65536) (t := 24) (by omega)
    simpa using this
  have o2 : (a * 16777216 + b * 65536) ||| c * 256 = a * 16777216 + b * 65536 + c * 256 := by
    have := or_low (a := a * 256 + b) (b := c * 256) (t := 16) (by omega)
    rw [show (a * 256 + b) * 2 ^ 16 = a * 16777216 + b * 65536 from by omega] at this
    exact this
  have o3 : (a * 16777216 + b * 65536 + c * 256) ||| d = a * 16777216 + b * 65536 + c * 256 + d := by
    have := or_low (a := a * 65536 + b * 256 + c) (b := d) (t := 8) (by omega)
    rw [show (a * 65536 + b * 256 + c) * 2 ^ 8 = a * 16777216 + b * 65536 + c * 256 from by omega] at this
    exact this
  rw [u32_or_nat _ _ (by omega) (by omega), o1, u32_or_nat _ _ (by omega) (by omega), o2, u32_or_nat _ _ (by omega) (by omega), o3]

theorem i64_or_nat (a b : Nat) (ha : a < 4294967296) (hb : b < 4294967296) : bits .or .i64 (a : Int) (b : Int) = ((a ||| b : Nat) : Int) := by
  have hx : a ||| b < 2 ^ 32 := Nat.or_lt_two_pow (by omega) (by omega)
  have ofInt_i64 : ∀ c : Nat, c < 4294967296 → (BitVec.ofInt 64 (c : Int)).toNat = c := fun c hc => by
    rw [BitVec.toNat_ofInt]; omega
  show IntKind.i64.wrap ((BitVec.ofInt 64 (a : Int) ||| BitVec.ofInt 64 (b : Int)).toNat : Int) = _
  rw [BitVec.toNat_or, ofInt_i64 a ha, ofInt_i64 b hb, IntKind.wrap_i64]
  omega
theorem join_i64 {a b c d : Nat} (ha : a < 256) (hb : b < 256) (hc : c < 256) (hd : d < 256) :
    bits BinOp.or IntKind.i64 (bits BinOp.or IntKind.i64 (bits BinOp.or IntKind.i64 ((a : Int) * 16777216) ((b : Int) * 65536)) ((c : Int) * 256)) (d : Int) = ((a * 16777216 + b * 65536 + c * 256 + d : Nat) : Int) := by
  have e0 : (a : Int) * 16777216 = ((a * 16777216 : Nat) : Int) := by omega
  have e1 : (b : Int) * 65536 = ((b * 65536 : Nat) : Int) := by omega
  have e2 : (c : Int) * 256 = ((c * 256 : Nat) : Int) := by omega
  rw [e0, e1, e2]
  have o1 : a * 16777216 ||| b * 65536 = a * 16777216 + b * 65536 := by
    have := or_low (a := a) (b := b * 65536) (t := 24) (by omega)
    simpa using this
  have o2 : (a * 16777216 + b * 65536) ||| c * 256 = a * 16777216 + b * 65536 + c * 256 := by
    have := or_low (a := a * 256 + b) (b := c * 256) (t := 16) (by omega)
    rw [show (a * 256 + b) * 2 ^ 16 = a * 16777216 + b * 65536 from by omega] at this
    exact this
  have o3 : (a * 16777216 + b * 65536 + c * 256) ||| d = a * 16777216 + b * 65536 + c * 256 + d := by
    have := or_low (a := a * 65536 + b * 256 + c) (b := d) (t := 8) (by omega)
    rw [show (a * 65536 + b * 256 + c) * 2 ^ 8 = a * 16777216 + b * 65536 + c * 256 from by omega] at this
    exact this
  rw [i64_or_nat _ _ (by omega) (by omega), o1, i64_or_nat _ _ (by omega) (by omega), o2, i64_or_nat _ _ (by omega) (by omega), o3]

end Go.Proofs.Ytlmkgkfildgkgaa
