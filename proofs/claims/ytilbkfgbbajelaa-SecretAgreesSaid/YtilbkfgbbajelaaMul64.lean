/- What bits.Mul64 answers of two limbs: the library's contract, met at this program's own numbers. Conditions: both below 2^64. -/
import Derived.Test.YtilbkfgbbajelaaBuf
import Derived.Shelf.Bits.Mul64
namespace Go.Proofs.Ytilbkfgbbajelaa
open Go.RowKit Go.Shelf Num
set_option linter.unusedVariables false

def mulRen : Ren := { f := fun | 264 => 85 | n => n, t := fun | 46 => 47 | 53 => 32 | n => n, g := fun n => n }
theorem mulLays : Lays.n264 Try.prog mulRen := { mixed := by kernel_rfl, f264 := Try.func85.trans (by kernel_rfl), t46 := Try.underlying47, a46 := Try.isAgg47, z46 := Try.sizeOf47, v46 := Try.zeroValue47, t53 := Try.underlying32, a53 := Try.isAgg32, z53 := Try.sizeOf32, v53 := Try.zeroValue32 }

theorem mul64_any (x y : Nat) (hx : x < M) (hy : y < M) (w : World) :
    Calls Try.prog 85 #[.int .u64 (x : Int), .int .u64 (y : Int)] w fun e w' => e = .returned (.tuple #[.int .u64 ((mulHi x y : Nat) : Int), .int .u64 ((mulLo x y : Nat) : Int)]) ∧ w = w' :=
  Calls.mono (Any.bits_Mul64 mulLays x y hx hy w) fun e w' h => ⟨h.1, h.2.symm⟩

end Go.Proofs.Ytilbkfgbbajelaa
