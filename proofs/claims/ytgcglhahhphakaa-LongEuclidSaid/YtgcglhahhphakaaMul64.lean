/- What bits.Mul64 answers of two limbs: the library's contract, laid at this program. Conditions: both below 2^64. -/
import Derived.Test.YtgcglhahhphakaaBuf
import Derived.Shelf.Bits.Mul64
import Derived.Shelf.Lay
namespace Go.Proofs.Ytgcglhahhphakaa
open Go.RowKit Go.Shelf Num
set_option linter.unusedVariables false

shelf_lay Lays.n264 Nm 264 at Try as Try.lays264

theorem mul64_any (x y : Nat) (hx : x < M) (hy : y < M) (w : World) :
    Calls Try.prog 29 #[.int .u64 (x : Int), .int .u64 (y : Int)] w fun e w' => e = .returned (.tuple #[.int .u64 ((mulHi x y : Nat) : Int), .int .u64 ((mulLo x y : Nat) : Int)]) ∧ w = w' :=
  Calls.mono (Any.bits_Mul64 Try.lays264 x y hx hy w) fun e w' h => ⟨h.1, h.2.symm⟩

end Go.Proofs.Ytgcglhahhphakaa
