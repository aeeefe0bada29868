/- lay.Num and lay.Text lay numbers and texts as bytes, and so do the document's. Condition: of Text, that the text has fewer than 2^47 bytes. -/
import Derived.Test.YtghdejepdckahaaTBase
namespace Go.Proofs.Ytghdejepdckahaa
open Go.RowKit
set_option linter.unusedVariables false

theorem four_text (w : World) (m : Nat) :
    (convert 39 9 (.slice (some ⟨w.heap.size, 0, none⟩) 4 4)).run Try.prog (w.alloc (.cells #[.int .u8 ((m : Int) / 16777216 % 256), .int .u8 ((m : Int) / 65536 % 256), .int .u8 ((m : Int) / 256 % 256), .int .u8 ((m : Int) % 256)] 5)) =
      .ok (.string (tx (be4 m))) (w.alloc (.cells #[.int .u8 ((m : Int) / 16777216 % 256), .int .u8 ((m : Int) / 65536 % 256), .int .u8 ((m : Int) / 256 % 256), .int .u8 ((m : Int) % 256)] 5)) := by
  have e := run_convert_bytes_back (P := Try.prog) (w.alloc (.cells #[.int .u8 ((m : Int) / 16777216 % 256), .int .u8 ((m : Int) / 65536 % 256), .int .u8 ((m : Int) / 256 % 256), .int .u8 ((m : Int) % 256)] 5)) 39 9 5 ⟨w.heap.size, 0, none⟩ 4 (be4 m) Try.underlying39 Try.underlying5 Try.underlying9 (fun j hj => by
    have hj4 : j < 4 := hj
    rcases j with _ | _ | _ | _ | j
    · simp [Addr.add, be4]
    · simp [Addr.add, be4]
    · simp [Addr.add, be4]
    · simp [Addr.add, be4]
    · omega)
  rw [tx_is]
  exact e

theorem and31_u32 (n : Int) : bits BinOp.and IntKind.u32 (n % 4294967296) 2147483647 = ((low31 n : Nat) : Int) := by
  have h := u32_and (n % 4294967296) 2147483647 (by omega) (by omega) (by omega) (by omega)
  rw [h, show (2147483647 : Int).toNat = 2147483647 from rfl, and31]
  unfold low31
  omega
theorem and31_i64 (n : Int) : bits BinOp.and IntKind.i64 n 2147483647 = ((low31 n : Nat) : Int) := by
  have h127 : (BitVec.ofInt 64 2147483647).toNat = 2 ^ 31 - 1 := by decide
  have key : (BitVec.ofInt 64 n &&& BitVec.ofInt 64 2147483647).toNat = (n % ((2 ^ 64 : Nat) : Int)).toNat % 2 ^ 31 := by
    rw [BitVec.toNat_and, BitVec.toNat_ofInt, h127, Nat.and_two_pow_sub_one_eq_mod]
  show IntKind.i64.wrap ((BitVec.ofInt 64 n &&& BitVec.ofInt 64 2147483647).toNat : Nat) = _
  rw [key, IntKind.wrap_i64]
  unfold low31
  omega

set_option maxRecDepth 100000 in
set_option maxHeartbeats 4000000 in
theorem layNum_any (n : Int) (w : World) :
    Calls Try.prog 8 #[.int .i64 n] w fun e W' => e = .returned (.string (tx (layN n))) ∧ Below w.heap.size w W' := by
  have h31 := and31_u32 n
  have hc := four_text w (low31 n)
  show Calls _ _ _ _ fun e W' => e = .returned (.string (tx (be4 (low31 n)))) ∧ _
  generalize low31 n = m at *
  go_enter Try.func8, Try.ntmps8
  go_wp2
  go_ret
  exact ⟨rfl, (Below.refl _ w).alloc (Nat.le_refl _) _⟩

set_option maxRecDepth 100000 in
set_option maxHeartbeats 4000000 in
theorem refLayNum_any (n : Int) (w : World) :
    Calls Try.prog 9 #[.int .i64 n] w fun e W' => e = .returned (.string (tx (layN n))) ∧ Below w.heap.size w W' := by
  have h31 := and31_i64 n
  have hc := four_text w (low31 n)
  show Calls _ _ _ _ fun e W' => e = .returned (.string (tx (be4 (low31 n)))) ∧ _
  generalize low31 n = m at *
  go_enter Try.func9, Try.ntmps9
  go_wp2
  go_ret
  exact ⟨rfl, (Below.refl _ w).alloc (Nat.le_refl _) _⟩

set_option maxRecDepth 100000 in
set_option maxHeartbeats 4000000 in
theorem layText_any (l : List UInt8) (w : World) (hl : l.length ≤ 140737488351232) :
    Calls Try.prog 10 #[.string (tx l)] w fun e W' => e = .returned (.string (tx (layT l))) ∧ Below w.heap.size w W' := by
  have hs : ((tx l).size : Int) = (l.length : Int) := by rw [tx_size]
  have HA := Lib.hid (tx_app (layN (l.length : Int)) l)
  have hroom := tx_room (a := layN (l.length : Int)) (b := l) (by rw [layN_length]; omega)
  go_enter Try.func10, Try.ntmps10
  go_wp2_with fail
  refine (layNum_any _ _).mono ?_
  rintro e W1 ⟨rfl, B⟩
  go_wp2
  go_ret
  exact ⟨rstr HA.out, B⟩

set_option maxRecDepth 100000 in
set_option maxHeartbeats 4000000 in
theorem refLayText_any (l : List UInt8) (w : World) (hl : l.length ≤ 140737488351232) :
    Calls Try.prog 11 #[.string (tx l)] w fun e W' => e = .returned (.string (tx (layT l))) ∧ Below w.heap.size w W' := by
  have hs : ((tx l).size : Int) = (l.length : Int) := by rw [tx_size]
  have HA := Lib.hid (tx_app (layN (l.length : Int)) l)
  have hroom := tx_room (a := layN (l.length : Int)) (b := l) (by rw [layN_length]; omega)
  go_enter Try.func11, Try.ntmps11
  go_wp2_with fail
  refine (refLayNum_any _ _).mono ?_
  rintro e W1 ⟨rfl, B⟩
  go_wp2
  go_ret
  exact ⟨rstr HA.out, B⟩

end Go.Proofs.Ytghdejepdckahaa
