/- lay.Num and lay.Text lay numbers and texts as bytes, and so do the document's. Condition: of Text, that the text has fewer than 2^47 bytes. -/
import Derived.Test.YtgnebmandifhiaaTBase
namespace Go.Proofs.Ytgnebmandifhiaa
open Go.RowKit
set_option linter.unusedVariables false

theorem four_text (w : World) (m : Nat) :
    (convert 57 9 (.slice (some ⟨w.heap.size, 0, none⟩) 4 4)).run Try.prog (w.alloc (.cells #[.int .u8 ((m : Int) / 16777216 % 256), .int .u8 ((m : Int) / 65536 % 256), .int .u8 ((m : Int) / 256 % 256), .int .u8 ((m : Int) % 256)] 5)) =
      .ok (.string (tx (be4 m))) (w.alloc (.cells #[.int .u8 ((m : Int) / 16777216 % 256), .int .u8 ((m : Int) / 65536 % 256), .int .u8 ((m : Int) / 256 % 256), .int .u8 ((m : Int) % 256)] 5)) := by
  have e := run_convert_bytes_back (P := Try.prog) (w.alloc (.cells #[.int .u8 ((m : Int) / 16777216 % 256), .int .u8 ((m : Int) / 65536 % 256), .int .u8 ((m : Int) / 256 % 256), .int .u8 ((m : Int) % 256)] 5)) 57 9 5 ⟨w.heap.size, 0, none⟩ 4 (be4 m) Try.underlying57 Try.underlying5 Try.underlying9 (fun j hj => by
    have hj4 : j < 4 := hj
    rcases j with _ | _ | _ | _ | j
    · simp [Addr.add, be4]
    · simp [Addr.add, be4]
    · simp [Addr.add, be4]
    · simp [Addr.add, be4]
    · omega)
  rw [tx_is]
  exact e

theorem and31_u32 (n : Int) : bits BinOp.and IntKind.u32 (n % 4294967296) 2147483647 = ((low31 n : Nat) : Int) := by
  have h := u32_and (n % 4294967296) 2147483647 (by omega) (by omega) (by omega) (by omega)
  rw [h, show (2147483647 : Int).toNat = 2147483647 from rfl, and31]
  unfold low31
  omega
theorem and31_i64 (n : Int) : bits BinOp.and IntKind.i64 n 2147483647 = ((low31 n : Nat) : Int) := by
  have h127 : (BitVec.ofInt 64 2147483647).toNat = 2 ^ 31 - 1 := by decide
  have key : (BitVec.ofInt 64 n &&& BitVec.ofInt 64 2147483647).toNat = (n % ((2 ^ 64 : Nat) : Int)).toNat % 2 ^ 31 := by
    rw [BitVec.toNat_and, BitVec.toNat_ofInt, h127, Nat.and_two_pow_sub_one_eq_mod]
  show IntKind.i64.wrap ((BitVec.ofInt 64 n &&& BitVec.ofInt 64 2147483647).toNat : Nat) = _
  rw [key, IntKind.wrap_i64]
  unfold low31
  omega

set_option maxRecDepth 100000 in
set_option maxHeartbeats 4000000 in
theorem layNum_any (n : Int) (w : World) :
    Calls Try.prog 35 #[.int .i64 n] w fun e W' => e = .returned (.string (tx (layN n))) ∧ Below w.heap.size w W' := by
  have h31 := and31_u32 n
  have hc := four_text w (low31 n)
  show Calls _ _ _ _ fun e W' => e = .returned (.string (tx (be4 (low31 n)))) ∧ _
  generalize low31 n = m at *
  go_enter Try.func35, Try.ntmps35
  go_wp2
  go_ret
  exact ⟨rfl, (Below.refl _ w).alloc (Nat.le_refl _) _⟩

set_option maxRecDepth 100000 in
set_option maxHeartbeats 4000000 in
theorem refLayNum_any (n : Int) (w : World) :
    Calls Try.prog 38 #[.int .i64 n] w fun e W' => e = .returned (.string (tx (layN n))) ∧ Below w.heap.size w W' := by
  have h31 := and31_i64 n
  have hc := four_text w (low31 n)
  show Calls _ _ _ _ fun e W' => e = .returned (.string (tx (be4 (low31 n)))) ∧ _
  generalize low31 n = m at *
  go_enter Try.func38, Try.ntmps38
  go_wp2
  go_ret
  exact ⟨rfl, (Below.refl _ w).alloc (Nat.le_refl _) _⟩



end Go.Proofs.Ytgnebmandifhiaa
