/- What bits.Mul64 answers of two limbs: the library's contract, met at this program's own numbers. Conditions: both below 2^64. -/
import Derived.Test.YtocdaciecmjpcaaBuf
import Derived.Shelf.Bits.Mul64
namespace Go.Proofs.Ytocdaciecmjpcaa
open Go.RowKit Go.Shelf Num
set_option linter.unusedVariables false

def mulRen : Ren := { f := fun | 264 => 41 | n => n, t := fun | 46 => 51 | 53 => 31 | n => n, g := fun n => n }
theorem mulLays : Lays.n264 Try.prog mulRen := { mixed := by kernel_rfl, f264 := Try.func41.trans (by kernel_rfl), t46 := Try.underlying51, a46 := Try.isAgg51, z46 := Try.sizeOf51, v46 := Try.zeroValue51, t53 := Try.underlying31, a53 := Try.isAgg31, z53 := Try.sizeOf31, v53 := Try.zeroValue31 }

theorem mul64_any (x y : Nat) (hx : x < M) (hy : y < M) (w : World) :
    Calls Try.prog 41 #[.int .u64 (x : Int), .int .u64 (y : Int)] w fun e w' => e = .returned (.tuple #[.int .u64 ((mulHi x y : Nat) : Int), .int .u64 ((mulLo x y : Nat) : Int)]) ∧ w = w' :=
  Calls.mono (Any.bits_Mul64 mulLays x y hx hy w) fun e w' h => ⟨h.1, h.2.symm⟩

end Go.Proofs.Ytocdaciecmjpcaa
