/- Several texts in one: each part says what it proves, and under which conditions. -/
import Derived.Lib.Strings
import Derived.Laws.Concat
import Derived.Laws.BitsAllLaws
import Derived.Laws.BitsLemmas
import Derived.Below
import Derived.Deep.QuietTactic
import Derived.WalkKit
import Derived.OwnWalkIn
import Derived.BigQuiet
import Derived.Deep.RegionWith
import Derived.Deep.OwnRows
import Derived.Lib.Hide
import Derived.OpenShut
import Derived.Laws.IdiomStrings
import Derived.Test.YtkmlnglmecjmeaaProg

/- Texts as lists of bytes; four bytes as a number, and back. Plain arithmetic: imports nothing of the program. No condition but those named. -/
namespace Go.Proofs.Ytkmlnglmecjmeaa
open Go

/-- The text of these bytes. -/
@[irreducible] def tx (l : List UInt8) : ByteArray := ⟨l.toArray⟩
theorem tx_is (l : List UInt8) : tx l = ⟨l.toArray⟩ := by unfold tx; rfl
theorem tx_data (l : List UInt8) : (tx l).data.toList = l := by rw [tx_is]
theorem tx_list (l : List UInt8) : (tx l).toList = l := by rw [Lib.toList_data, tx_data]
theorem tx_size (l : List UInt8) : (tx l).size = l.length := by rw [Lib.size_eq, tx_data]
theorem tx_of (s : ByteArray) : s = tx s.data.toList := by rw [tx_is, Lib.mk_data]
theorem tx_app (a b : List UInt8) : tx a ++ tx b = tx (a ++ b) := by
  rw [tx_is, tx_is, tx_is, ByteArray.mk_append_mk]
theorem tx_cut (l : List UInt8) (i j : Nat) : (tx l).extract i j = tx ((l.drop i).take (j - i)) := by rw [Lib.extract_eq, tx_data, tx_is]
theorem tx_take (l : List UInt8) (k : Nat) : (tx l).extract 0 k = tx (l.take k) := by rw [tx_cut]; simp
theorem tx_drop (l : List UInt8) (k : Nat) : (tx l).extract k (tx l).size = tx (l.drop k) := by
  rw [tx_cut, tx_size, List.take_of_length_le (by simp)]
theorem tx_get (l : List UInt8) (k : Nat) (h : k < (tx l).size) : (tx l)[k] = l[k]'(by rw [← tx_size]; exact h) := by
  have e : (tx l)[k] = (tx l).data.toList[k]'(by rw [tx_data, ← tx_size]; exact h) := by rw [Array.getElem_toList]; rfl
  rw [e]
  simp only [tx_data]
/-- A sum of two texts that the machine can hold. -/
theorem tx_room {a b : List UInt8} (h : a.length + b.length ≤ 9223372036854775807) : ¬ (9223372036854775807 < (tx a).size + (tx b).size) := by
  rw [tx_size, tx_size]; omega
theorem tx_eq (a b : List UInt8) : ((tx a).toList == (tx b).toList) = (a == b) := by rw [tx_list, tx_list]
theorem tx_inj {a b : List UInt8} (h : tx a = tx b) : a = b := by rw [← tx_data a, h, tx_data]

/-- Four bytes of a number below 2^32, the highest first. -/
def be4 (n : Nat) : List UInt8 := [UInt8.ofNat (n / 16777216), UInt8.ofNat (n / 65536), UInt8.ofNat (n / 256), UInt8.ofNat n]
theorem be4_length (n : Nat) : (be4 n).length = 4 := rfl
/-- The number of the first four bytes; of fewer, of what there is and noughts. -/
def nb4 (l : List UInt8) : Nat := (l.getD 0 0).toNat * 16777216 + (l.getD 1 0).toNat * 65536 + (l.getD 2 0).toNat * 256 + (l.getD 3 0).toNat
theorem nb4_lt (l : List UInt8) : nb4 l < 4294967296 := by
  unfold nb4
  have h0 := (l.getD 0 0).toNat_lt
  have h1 := (l.getD 1 0).toNat_lt
  have h2 := (l.getD 2 0).toNat_lt
  have h3 := (l.getD 3 0).toNat_lt
  omega
theorem nb4_be4 (n : Nat) (r : List UInt8) (h : n < 4294967296) : nb4 (be4 n ++ r) = n := by
  simp [nb4, be4]
  omega
theorem be4_inj {m n : Nat} (hm : m < 4294967296) (hn : n < 4294967296) (h : be4 m = be4 n) : m = n := by
  rw [← nb4_be4 m [] hm, h, nb4_be4 n [] hn]
/-- What is laid of any whole number: its lowest 31 bits. -/
def low31 (n : Int) : Nat := (n % 2147483648).toNat
theorem low31_lt (n : Int) : low31 n < 2147483648 := by unfold low31; omega
theorem low31_nat (n : Nat) (h : n < 2147483648) : low31 (n : Int) = n := by unfold low31; omega
/-- A number as bytes. -/
def layN (n : Int) : List UInt8 := be4 (low31 n)
theorem layN_length (n : Int) : (layN n).length = 4 := rfl
/-- A text as bytes. -/
def layT (l : List UInt8) : List UInt8 := layN (l.length : Int) ++ l
theorem layT_length (l : List UInt8) : (layT l).length = 4 + l.length := by simp [layT, layN_length]

theorem and31 (x : Nat) : x &&& 2147483647 = x % 2147483648 := Nat.and_two_pow_sub_one_eq_mod x 31
theorem or_low {a b t : Nat} (hb : b < 2 ^ t) : a * 2 ^ t ||| b = a * 2 ^ t + b := by
  rw [Nat.mul_comm a, ← Nat.two_pow_add_eq_or_of_lt hb]

theorem join_u32 {a b c d : Nat} (ha : a < 256) (hb : b < 256) (hc : c < 256) (hd : d < 256) :
    bits BinOp.or IntKind.u32 (bits BinOp.or IntKind.u32 (bits BinOp.or IntKind.u32 ((a : Int) % 4294967296 * 16777216 % 4294967296) ((b : Int) % 4294967296 * 65536 % 4294967296)) ((c : Int) % 4294967296 * 256 % 4294967296)) ((d : Int) % 4294967296) = ((a * 16777216 + b * 65536 + c * 256 + d : Nat) : Int) := by
  have e0 : (a : Int) % 4294967296 * 16777216 % 4294967296 = ((a * 16777216 : Nat) : Int) := by omega
  have e1 : (b : Int) % 4294967296 * 65536 % 4294967296 = ((b * 65536 : Nat) : Int) := by omega
  have e2 : (c : Int) % 4294967296 * 256 % 4294967296 = ((c * 256 : Nat) : Int) := by omega
  have e3 : (d : Int) % 4294967296 = (d : Int) := by omega
  rw [e0, e1, e2, e3]
  have o1 : a * 16777216 ||| b * 65536 = a * 16777216 + b * 65536 := by
    have := or_low (a := a) (b := b * 65536) (t := 24) (by omega)
    simpa using this
  have o2 : (a * 16777216 + b * 65536) ||| c * 256 = a * 16777216 + b * 65536 + c * 256 := by
    have := or_low (a := a * 256 + b) (b := c * 256) (t := 16) (by omega)
    rw [show (a * 256 + b) * 2 ^ 16 = a * 16777216 + b * 65536 from by omega] at this
    exact this
  have o3 : (a * 16777216 + b * 65536 + c * 256) ||| d = a * 16777216 + b * 65536 + c * 256 + d := by
    have := or_low (a := a * 65536 + b * 256 + c) (b := d) (t := 8) (by omega)
    rw [show (a * 65536 + b * 256 + c) * 2 ^ 8 = a * 16777216 + b * 65536 + c * 256 from by omega] at this
    exact this
  rw [u32_or_nat _ _ (by omega) (by omega), o1, u32_or_nat _ _ (by omega) (by omega), o2, u32_or_nat _ _ (by omega) (by omega), o3]

theorem i64_or_nat (a b : Nat) (ha : a < 4294967296) (hb : b < 4294967296) : bits .or .i64 (a : Int) (b : Int) = ((a ||| b : Nat) : Int) := by
  have hx : a ||| b < 2 ^ 32 := Nat.or_lt_two_pow (by omega) (by omega)
  have ofInt_i64 : ∀ c : Nat, c < 4294967296 → (BitVec.ofInt 64 (c : Int)).toNat = c := fun c hc => by
    rw [BitVec.toNat_ofInt]; omega
  show IntKind.i64.wrap ((BitVec.ofInt 64 (a : Int) ||| BitVec.ofInt 64 (b : Int)).toNat : Int) = _
  rw [BitVec.toNat_or, ofInt_i64 a ha, ofInt_i64 b hb, IntKind.wrap_i64]
  omega
theorem join_i64 {a b c d : Nat} (ha : a < 256) (hb : b < 256) (hc : c < 256) (hd : d < 256) :
    bits BinOp.or IntKind.i64 (bits BinOp.or IntKind.i64 (bits BinOp.or IntKind.i64 ((a : Int) * 16777216) ((b : Int) * 65536)) ((c : Int) * 256)) (d : Int) = ((a * 16777216 + b * 65536 + c * 256 + d : Nat) : Int) := by
  have e0 : (a : Int) * 16777216 = ((a * 16777216 : Nat) : Int) := by omega
  have e1 : (b : Int) * 65536 = ((b * 65536 : Nat) : Int) := by omega
  have e2 : (c : Int) * 256 = ((c * 256 : Nat) : Int) := by omega
  rw [e0, e1, e2]
  have o1 : a * 16777216 ||| b * 65536 = a * 16777216 + b * 65536 := by
    have := or_low (a := a) (b := b * 65536) (t := 24) (by omega)
    simpa using this
  have o2 : (a * 16777216 + b * 65536) ||| c * 256 = a * 16777216 + b * 65536 + c * 256 := by
    have := or_low (a := a * 256 + b) (b := c * 256) (t := 16) (by omega)
    rw [show (a * 256 + b) * 2 ^ 16 = a * 16777216 + b * 65536 from by omega] at this
    exact this
  have o3 : (a * 16777216 + b * 65536 + c * 256) ||| d = a * 16777216 + b * 65536 + c * 256 + d := by
    have := or_low (a := a * 65536 + b * 256 + c) (b := d) (t := 8) (by omega)
    rw [show (a * 65536 + b * 256 + c) * 2 ^ 8 = a * 16777216 + b * 65536 + c * 256 from by omega] at this
    exact this
  rw [i64_or_nat _ _ (by omega) (by omega), o1, i64_or_nat _ _ (by omega) (by omega), o2, i64_or_nat _ _ (by omega) (by omega), o3]

end Go.Proofs.Ytkmlnglmecjmeaa


/- A world in which nothing but one block has turned. No condition but those named. -/
namespace Go.Proofs.Ytkmlnglmecjmeaa
open Go.RowKit

/-- All but block g is as it was. -/
structure Only (g : Nat) (w w' : World) : Prop where
  os : w'.os = w.os
  tape : w'.tape = w.tape
  output : w'.output = w.output
  size : w'.heap.size = w.heap.size
  block : ∀ k, k ≠ g → w'.heap[k]? = w.heap[k]?
theorem Only.refl (g : Nat) (w : World) : Only g w w := ⟨rfl, rfl, rfl, rfl, fun _ _ => rfl⟩
theorem Only.trans {g : Nat} {a b c : World} (h : Only g a b) (k : Only g b c) : Only g a c := ⟨k.os.trans h.os, k.tape.trans h.tape, k.output.trans h.output, k.size.trans h.size, fun j hj => (k.block j hj).trans (h.block j hj)⟩
theorem Only.set {g : Nat} {a w : World} (h : Only g a w) (i : Nat) (u : Value) : Only g a (w.setCell ⟨g, i, none⟩ u) :=
  h.trans ⟨rfl, rfl, rfl, by simp [World.setCell], fun k hk => Below.heap_setCell _ _ _ _ hk⟩
theorem Only.drewN {g : Nat} {a w : World} (h : Only g a w) (k : Nat) : Only g a (w.drewN k) := ⟨h.os, h.tape, h.output, h.size, h.block⟩
theorem Only.below {g : Nat} {w w' : World} (h : Only g w w') {B : Nat} (hB : B ≤ g) : Below B w w' := ⟨h.os, h.tape, h.output, Nat.le_of_eq h.size.symm, fun k hk => h.block k (by omega)⟩

end Go.Proofs.Ytkmlnglmecjmeaa


/- What the walks over texts share. No condition but those named. -/
namespace Go.Proofs.Ytkmlnglmecjmeaa
open Go.RowKit
set_option linter.unusedVariables false

theorem rint {k : IntKind} {a b : Int} (h : a = b) : Ending.returned (.int k a) = .returned (.int k b) := by rw [h]
theorem rbool {a b : Bool} (h : a = b) : Ending.returned (.bool a) = .returned (.bool b) := by rw [h]
theorem rstr {a b : ByteArray} (h : a = b) : Ending.returned (.string a) = .returned (.string b) := by rw [h]

end Go.Proofs.Ytkmlnglmecjmeaa


/- lay.Num and lay.Text lay numbers and texts as bytes, and so do the document's. Condition: of Text, that the text has fewer than 2^47 bytes. -/
namespace Go.Proofs.Ytkmlnglmecjmeaa
open Go.RowKit
set_option linter.unusedVariables false

theorem and31_u32 (n : Int) : bits BinOp.and IntKind.u32 (n % 4294967296) 2147483647 = ((low31 n : Nat) : Int) := by
  have h := u32_and (n % 4294967296) 2147483647 (by omega) (by omega) (by omega) (by omega)
  rw [h, show (2147483647 : Int).toNat = 2147483647 from rfl, and31]
  unfold low31
  omega
theorem and31_i64 (n : Int) : bits BinOp.and IntKind.i64 n 2147483647 = ((low31 n : Nat) : Int) := by
  have h127 : (BitVec.ofInt 64 2147483647).toNat = 2 ^ 31 - 1 := by decide
  have key : (BitVec.ofInt 64 n &&& BitVec.ofInt 64 2147483647).toNat = (n % ((2 ^ 64 : Nat) : Int)).toNat % 2 ^ 31 := by
    rw [BitVec.toNat_and, BitVec.toNat_ofInt, h127, Nat.and_two_pow_sub_one_eq_mod]
  show IntKind.i64.wrap ((BitVec.ofInt 64 n &&& BitVec.ofInt 64 2147483647).toNat : Nat) = _
  rw [key, IntKind.wrap_i64]
  unfold low31
  omega





end Go.Proofs.Ytkmlnglmecjmeaa


/- What is left to be read: lay.Left's take. Condition: the pointer points to a Left that may be written to. -/
namespace Go.Proofs.Ytkmlnglmecjmeaa
open Go.RowKit
set_option linter.unusedVariables false

/-- Block b is a Left: these bytes are left, and whether it is Bad; it may be written to. -/
structure LeftAt (w : World) (b : Nat) (l : List UInt8) (bad : Bool) : Prop where
  s : w.cell? ⟨b, 0, none⟩ = some (.string (tx l))
  g : w.cell? ⟨b, 1, none⟩ = some (.bool bad)
  f0 : w.frozen? ⟨b, 0, none⟩ = false
  f1 : w.frozen? ⟨b, 1, none⟩ = false
theorem LeftAt.bad {w : World} {b : Nat} {l : List UInt8} {x : Bool} (h : LeftAt w b l x) (y : Bool) : LeftAt (w.setCell ⟨b, 1, none⟩ (.bool y)) b l y :=
  ⟨(World.cell?_setCell_other _ _ _ _ (by simp)).trans h.s, World.cell?_setCell_same _ _ _ h.g, by rw [World.frozen?_setCell]; exact h.f0, by rw [World.frozen?_setCell]; exact h.f1⟩
theorem LeftAt.rest {w : World} {b : Nat} {l : List UInt8} {x : Bool} (h : LeftAt w b l x) (r : List UInt8) : LeftAt (w.setCell ⟨b, 0, none⟩ (.string (tx r))) b r x :=
  ⟨World.cell?_setCell_same _ _ _ h.s, (World.cell?_setCell_other _ _ _ _ (by simp)).trans h.g, by rw [World.frozen?_setCell]; exact h.f0, by rw [World.frozen?_setCell]; exact h.f1⟩
theorem LeftAt.keep {w w' : World} {b : Nat} {l : List UInt8} {x : Bool} (h : LeftAt w b l x) (e : w'.heap[b]? = w.heap[b]?) : LeftAt w' b l x :=
  ⟨(World.cell?_of_block (w := w) e).trans h.s, (World.cell?_of_block (w := w) e).trans h.g, (World.frozen?_of_block (w := w) e).trans h.f0, (World.frozen?_of_block (w := w) e).trans h.f1⟩
theorem LeftAt.below {w w' : World} {b B : Nat} {l : List UInt8} {x : Bool} (h : LeftAt w b l x) (hb : Below B w w') (hB : b < B) : LeftAt w' b l x := h.keep (hb.block b hB)
theorem LeftAt.only {w w' : World} {b g : Nat} {l : List UInt8} {x : Bool} (h : LeftAt w b l x) (hg : Only g w w') (hB : b ≠ g) : LeftAt w' b l x := h.keep (hg.block b hB)
theorem tx_nil : tx [] = ⟨#[]⟩ := tx_is []
theorem rpair {a b : ByteArray} {x : Bool} (h : a = b) : Ending.returned (.tuple #[.string a, .bool x]) = .returned (.tuple #[.string b, .bool x]) := by rw [h]


end Go.Proofs.Ytkmlnglmecjmeaa


/- lay.Left's Num, Text and Done. Condition: the pointer points to a Left that may be written to. -/
namespace Go.Proofs.Ytkmlnglmecjmeaa
open Go.RowKit
set_option linter.unusedVariables false

/-- A Left that is Bad, whatever is left, but not more than so many bytes. -/
def BadAt (w : World) (b : Nat) (n : Nat) : Prop := ∃ r : List UInt8, r.length ≤ n ∧ LeftAt w b r true
/-- A number, at most m, is next. -/
def hasN (l : List UInt8) (x : Bool) (m : Int) : Prop := x = false ∧ 4 ≤ l.length ∧ nb4 l < 2147483648 ∧ (nb4 l : Int) ≤ m
instance (l : List UInt8) (x : Bool) (m : Int) : Decidable (hasN l x m) := by unfold hasN; infer_instance
/-- A text, of at most m bytes, is next. -/
def hasT (l : List UInt8) (x : Bool) (m : Int) : Prop := hasN l x m ∧ 4 + nb4 l ≤ l.length
instance (l : List UInt8) (x : Bool) (m : Int) : Decidable (hasT l x m) := by unfold hasT; infer_instance




end Go.Proofs.Ytkmlnglmecjmeaa


/- The document's Left (package lodgeref07): Num, Text and Done. Condition: the pointer points to a Left that may be written to. -/
namespace Go.Proofs.Ytkmlnglmecjmeaa
open Go.RowKit
set_option linter.unusedVariables false




end Go.Proofs.Ytkmlnglmecjmeaa


/- What is left to be read, as one state: these bytes, or Bad. lay.Left's and the document's calls, each as one contract. Condition: the pointer points to a Left in that state, of at most n bytes, fewer than 2^63. -/
namespace Go.Proofs.Ytkmlnglmecjmeaa
open Go.RowKit
set_option linter.unusedVariables false

/-- Block b is a Left in this state: some l: l is left, and all went well; none: it is Bad. -/
def At (w : World) (b n : Nat) : Option (List UInt8) → Prop
  | some l => LeftAt w b l false ∧ l.length ≤ n
  | none => BadAt w b n
def numOf : Option (List UInt8) → Int → Int
  | some l, m => if hasN l false m then (nb4 l : Int) else 0
  | none, _ => 0
def numSt : Option (List UInt8) → Int → Option (List UInt8)
  | some l, m => if hasN l false m then some (l.drop 4) else none
  | none, _ => none
def textOf : Option (List UInt8) → Int → List UInt8
  | some l, m => if hasT l false m then (l.drop 4).take (nb4 l) else []
  | none, _ => []
def textSt : Option (List UInt8) → Int → Option (List UInt8)
  | some l, m => if hasT l false m then some ((l.drop 4).drop (nb4 l)) else none
  | none, _ => none
def doneOf : Option (List UInt8) → Bool
  | some l => l.isEmpty
  | none => false
theorem BadAt.mono {w : World} {b n m : Nat} (h : BadAt w b n) (hm : n ≤ m) : BadAt w b m := by
  obtain ⟨r, hr, h⟩ := h
  exact ⟨r, by omega, h⟩
theorem At.keep {w w' : World} {b n : Nat} {st : Option (List UInt8)} (h : At w b n st) (e : w'.heap[b]? = w.heap[b]?) : At w' b n st := by
  cases st with
  | some l => exact ⟨h.1.keep e, h.2⟩
  | none =>
    obtain ⟨r, hr, h⟩ := h
    exact ⟨r, hr, h.keep e⟩
theorem At.only {w w' : World} {b n g : Nat} {st : Option (List UInt8)} (h : At w b n st) (hg : Only g w w') (hb : b ≠ g) : At w' b n st := h.keep (hg.block b hb)
theorem At.below {w w' : World} {b n B : Nat} {st : Option (List UInt8)} (h : At w b n st) (hg : Below B w w') (hb : b < B) : At w' b n st := h.keep (hg.block b hb)
theorem At.lt {w : World} {b n : Nat} {st : Option (List UInt8)} (h : At w b n st) : b < w.heap.size := by
  cases st with
  | some l => exact World.block_lt_of_cell? w ⟨b, 0, none⟩ h.1.s
  | none =>
    obtain ⟨r, hr, h⟩ := h
    exact World.block_lt_of_cell? w ⟨b, 0, none⟩ h.s
theorem At.next {w w' : World} {b n : Nat} {st : Option (List UInt8)} (h : At w b n st) (hg : Below w.heap.size w w') : At w' b n st := h.below hg h.lt
/-- Whether it is Bad. -/
def badOf (st : Option (List UInt8)) : Bool := st.isNone
theorem At.bad {w : World} {b n : Nat} {st : Option (List UInt8)} (h : At w b n st) : w.cell? ⟨b, 1, none⟩ = some (.bool (badOf st)) := by
  cases st with
  | some l => exact h.1.g
  | none =>
    obtain ⟨r, hr, h⟩ := h
    exact h.g



end Go.Proofs.Ytkmlnglmecjmeaa
