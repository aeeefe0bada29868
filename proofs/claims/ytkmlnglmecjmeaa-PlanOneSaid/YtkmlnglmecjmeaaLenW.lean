import Derived.Test.YtkmlnglmecjmeaaProg
import Derived.Test.YtkmlnglmecjmeaaNumA
import Derived.Lib.Strings
import Derived.Lib.Slices
import Derived.Lib.Small
import Derived.Lib.Walk
import Derived.Lib.BitFns
/- math/bits.Len64 answers how many bits a number below 2^64 has. -/
namespace Go.Proofs.Ytkmlnglmecjmeaa
open Num
set_option linter.unusedVariables false

theorem bitLen_nbits : ∀ b : Fin 256, Lib.bitLen b.val = nbits b.val := by decide +kernel

theorem len_way (k P : Nat) (hP : P = 2 ^ k) (y : Int) (x : Nat) (hy : y = ((x / P : Nat) : Int)) (hb : x / P ≤ 255) (hk : P ≤ x ∨ k = 0) : (k : Int) + Lib.len8 (y % 256) = ((nbits x : Nat) : Int) ∧ 0 ≤ Lib.len8 (y % 256) ∧ Lib.len8 (y % 256) ≤ 8 := by
  have e : y % 256 = ((x / P : Nat) : Int) := by
    rw [hy]
    generalize x / P = q at *
    omega
  have l := Lib.bitLen_le8' (y % 256) (by omega) (by omega)
  rw [Lib.len8_of (y % 256) (by omega) (by omega)]
  rw [e] at l ⊢
  rw [Int.toNat_natCast] at l ⊢
  have hn := bitLen_nbits ⟨x / P, by omega⟩
  dsimp only at hn
  refine ⟨?_, by omega, by omega⟩
  rw [hn]
  rcases hk with hk | hk
  · have hpos : 0 < P := by rw [hP]; exact Nat.two_pow_pos k
    have h1 := nbits_top (x % P) (x / P) k (by rw [← hP]; exact Nat.mod_lt _ hpos) (by
      have := Nat.div_pos hk hpos
      omega)
    rw [← hP, Nat.mod_add_div] at h1
    rw [h1]
    omega
  · subst hk
    have : P = 1 := by simpa using hP
    subst this
    simp

theorem fin_way (k : Nat) (K : Int) (P : Nat) (hK : K = (k : Int)) (hP : P = 2 ^ k) (y : Int) (x : Nat) (hy : y = ((x / P : Nat) : Int)) (hb : x / P ≤ 255) (hk : P ≤ x ∨ k = 0) (h56 : k ≤ 56) :
    (K + ((Lib.len8 (y % 256) + 9223372036854775808) % 18446744073709551616 - 9223372036854775808) + 9223372036854775808) % 18446744073709551616 - 9223372036854775808 = ((nbits x : Nat) : Int) := by
  obtain ⟨h1, h2, h3⟩ := len_way k P hP y x hy hb hk
  rw [← h1, hK]
  generalize Lib.len8 (y % 256) = L at *
  omega

set_option maxHeartbeats 4000000 in
set_option maxRecDepth 100000 in
theorem len64_int (x : Int) (w : World) (h0 : 0 ≤ x) (h1 : x ≤ 18446744073709551615) :
    Calls Try.prog 61 #[.int .u64 x] w fun e w' => e = .returned (.int .i64 ((nbits x.toNat : Nat) : Int)) ∧ w = w' := by
  go_enter Try.func61, Try.ntmps61
  go_wp2
  all_goals (go_ret; refine ⟨congrArg Ending.returned (congrArg (Value.int IntKind.i64) ?_), rfl⟩)
  · exact fin_way 56 56 72057594037927936 rfl rfl (x / 4294967296 / 65536 / 256) x.toNat (by omega) (by omega) (.inl (by omega)) (by omega)
  · exact fin_way 48 48 281474976710656 rfl rfl (x / 4294967296 / 65536) x.toNat (by omega) (by omega) (.inl (by omega)) (by omega)
  · exact fin_way 40 40 1099511627776 rfl rfl (x / 4294967296 / 256) x.toNat (by omega) (by omega) (.inl (by omega)) (by omega)
  · exact fin_way 32 32 4294967296 rfl rfl (x / 4294967296) x.toNat (by omega) (by omega) (.inl (by omega)) (by omega)
  · exact fin_way 24 24 16777216 rfl rfl (x / 65536 / 256) x.toNat (by omega) (by omega) (.inl (by omega)) (by omega)
  · exact fin_way 16 16 65536 rfl rfl (x / 65536) x.toNat (by omega) (by omega) (.inl (by omega)) (by omega)
  · exact fin_way 8 8 256 rfl rfl (x / 256) x.toNat (by omega) (by omega) (.inl (by omega)) (by omega)
  · have h := fin_way 0 0 1 rfl rfl x x.toNat (by omega) (by omega) (.inr rfl) (by omega)
    rw [← h]
    have := (len_way 0 1 rfl x x.toNat (by omega) (by omega) (.inr rfl)).2
    omega

theorem len64_any (x : Nat) (w : World) (hx : x < M) :
    Calls Try.prog 61 #[.int .u64 (x : Int)] w fun e w' => e = .returned (.int .i64 ((nbits x : Nat) : Int)) ∧ w = w' := by
  have h := len64_int (x : Int) w (by omega) (by unfold M at hx; omega)
  rwa [Int.toNat_natCast] at h

end Go.Proofs.Ytkmlnglmecjmeaa
