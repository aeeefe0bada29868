/- What the proofs of the laws share: an argument that came in reads as limbs; bounds on sums; the two words 'equal' in one form. -/
import Derived.Test.YtmbdidompjgaaaaLits
namespace Go.Proofs.Ytmbdidompjgaaaa
open Go.RowKit Go.Shelf Num
set_option linter.unusedVariables false

theorem cell_lt {w : World} {p : Addr} {v : Value} (h : w.cell? p = some v) : p.block < w.heap.size := by
  rcases Nat.lt_or_ge p.block w.heap.size with h1 | h1
  · exact h1
  · have : w.heap[p.block]? = none := Array.getElem?_eq_none h1
    simp [World.cell?, this] at h

theorem lim_of_row {w : World} {a : Option Addr} {len cap : Nat} {zs : List Int}
    (h : (a = none ∧ len = 0 ∧ cap = 0 ∧ zs = []) ∨ ∃ x, a = some x ∧ len ≤ cap ∧ cap ≤ maxLen ∧ zs.length = cap ∧ (∀ i, i < zs.length → w.cell? (x.add i) = some (.int .u64 (zs.getD i 0))) ∧ ∀ n ∈ zs, (Lit.int .u64 n).wf = true) :
    ∃ xs : List Nat, xs.length = len ∧ Lim w.heap.size w (.slice a len cap) xs := by
  rcases h with ⟨rfl, rfl, rfl, rfl⟩ | ⟨x, rfl, hl, hm, hz, hcell, hwf⟩
  · exact ⟨[], rfl, Lim.nil _ _⟩
  · refine ⟨(zs.take len).map Int.toNat, by simp; omega, ?_⟩
    have hlen : ((zs.take len).map Int.toNat).length = len := by simp; omega
    refine ⟨some x, cap, by rw [hlen], by omega, (fun h => by cases h), ?_, fun hp => ?_⟩
    · intro y hy
      obtain ⟨z, hz1, rfl⟩ := List.mem_map.1 hy
      have h1 := bounds_u64 (hwf z (List.mem_of_mem_take hz1))
      unfold M
      omega
    · rw [hlen] at hp ⊢
      obtain ⟨b, off, rfl, hc⟩ := ints_at hcell (by omega)
      refine ⟨b, off, rfl, cell_lt (hc 0 (by omega)), fun j hj => ?_⟩
      rw [hc j (by omega)]
      have hj2 : j < zs.length := by omega
      have h1 := bounds_u64 (hwf zs[j] (List.getElem_mem hj2))
      have e : lat ((zs.take len).map Int.toNat) j = zs[j].toNat := by simp [lat, hj, hj2]
      rw [e]
      have e2 : zs.getD j 0 = zs[j] := by simp [hj2]
      rw [e2]
      congr 2
      omega


theorem pow_mono {a b : Nat} (h : a ≤ b) : M ^ a ≤ M ^ b := Nat.pow_le_pow_right M_pos h
theorem val_50 {xs : List Nat} (ho : Ok xs) (h : xs.length ≤ 50) : val xs < M ^ 50 := Nat.lt_of_lt_of_le (val_lt ho) (pow_mono h)
theorem nbits_val {xs : List Nat} {k : Nat} (ho : Ok xs) (h : xs.length ≤ k) : nbits (val xs) ≤ 64 * k := nbits_le.2 (by rw [← M_pow]; exact Nat.lt_of_lt_of_le (val_lt ho) (pow_mono h))
theorem limbs_4 {n : Nat} (h : n < 4 * M ^ 50) : (limbs n).length ≤ 51 := by
  refine limbs_len (k := 51) ?_
  rw [Nat.pow_succ]
  have : 4 ≤ M := by unfold M; omega
  have h2 : M ^ 50 * 4 ≤ M ^ 50 * M := Nat.mul_le_mul_left _ this
  omega

end Go.Proofs.Ytmbdidompjgaaaa
