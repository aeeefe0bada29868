import Derived.Test.YtlmkgkfildgkgaaTBase
/- lay.Num and lay.Text lay numbers and texts as bytes, and so do the document's. Condition: of Text, that the text has fewer than 2^47 bytes. -/
namespace Go.Proofs.Ytlmkgkfildgkgaa
open Go.RowKit
set_option linter.unusedVariables false

theorem and31_u32 (n : Int) : bits BinOp.and IntKind.u32 (n % 4294967296) 2147483647 = ((low31 n : Nat) : Int) := by
  have h := u32_and (n % 4294967296) 2147483647 (by omega) (by omega) (by omega) (by omega)
  rw [h, show (2147483647 : Int).toNat = 2147483647 from rfl, and31]
  unfold low31
  omega
theorem and31_i64 (n : Int) : bits BinOp.and IntKind.i64 n 2147483647 = ((low31 n : Nat) : Int) := by
  have h127 : (BitVec.ofInt 64 2147483647).toNat = 2 ^ 31 - 1 := by decide
  have key : (BitVec.ofInt 64 n &&& BitVec.ofInt 64 2147483647).toNat = (n % ((2 ^ 64 : Nat) : Int)).toNat % 2 ^ 31 := by
    rw [BitVec.toNat_and, BitVec.toNat_ofInt, h127, Nat.and_two_pow_sub_one_eq_mod]
  show IntKind.i64.wrap ((BitVec.ofInt 64 n &&& BitVec.ofInt 64 2147483647).toNat : Nat) = _
  rw [key, IntKind.wrap_i64]
  unfold low31
  omega





end Go.Proofs.Ytlmkgkfildgkgaa
