/- long.guess answers a limb that is no less than what two limbs hold of one. Conditions: the divisor's highest bit is set. -/
import Derived.Test.YtilbkfgbbajelaaDivW
namespace Go.Proofs.Ytilbkfgbbajelaa
open Go.RowKit Go.Shelf Num
set_option linter.unusedVariables false

def guessN (h l d : Nat) : Nat := if d ≤ h then 18446744073709551615 else (h * M + l) / d
theorem guessN_lt {h l d : Nat} (hl : l < M) : guessN h l d < M := by
  unfold guessN
  split
  · unfold M; omega
  · rename_i hd
    refine (Nat.div_lt_iff_lt_mul (by omega)).2 ?_
    have : (h + 1) * M ≤ d * M := Nat.mul_le_mul_right _ (by omega)
    rw [Nat.mul_comm M d]
    rw [Nat.add_mul] at this
    omega
theorem guessN_ge {h l d q : Nat} (hq : q < M) (hg : q ≤ (h * M + l) / d) : q ≤ guessN h l d := by
  unfold guessN
  split
  · unfold M at hq; omega
  · exact hg

set_option maxHeartbeats 1000000 in
theorem guess_any (h l d : Nat) (w : World) (hh : h < M) (hl : l < M) (hd : d < M) (hn : 9223372036854775808 ≤ d) :
    Calls Try.prog 77 #[.int .u64 (h : Int), .int .u64 (l : Int), .int .u64 (d : Int)] w fun e w' => e = .returned (.int .u64 ((guessN h l d : Nat) : Int)) ∧ ∃ n, w' = w.drewN n := by
  by_cases hc : d ≤ h
  · have hb : decide (d ≤ h) = true := by simpa using hc
    have HG := Lib.hid (show guessN h l d = 18446744073709551615 by unfold guessN; rw [if_pos hc])
    go_enter Try.func77, Try.ntmps77
    go_wp2
    go_ret
    exact ⟨ret_int (by rw [HG.out]; rfl), 0, rfl⟩
  · have hb : decide (d ≤ h) = false := by simpa using hc
    have HG := Lib.hid (show guessN h l d = (h * M + l) / d by unfold guessN; rw [if_neg hc])
    go_enter Try.func77, Try.ntmps77
    go_wp2_with fail
    refine (div64_any h l d w (by omega) hl hd hn).mono ?_
    rintro e W1 ⟨⟨r, rfl⟩, n, rfl⟩
    rw [← HG.out]
    go_wp2
    go_ret
    exact ⟨rfl, n, rfl⟩

end Go.Proofs.Ytilbkfgbbajelaa
