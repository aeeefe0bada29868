/- A walk through a tree by halves, from the root's label on: each spot is seen once. Plain, of no program. No condition. -/
import Derived.Test.YtoddcpkogapolaaLabP
namespace Go.Proofs.Ytoddcpkogapolaa
open Go.RowKit
set_option linter.unusedVariables false

/-- Whether the part at a label holds the j-th spot. -/
def holds (ot : Option Tr) (j : Nat) (x : Nat × Nat) : Bool := match subO ot (path x.1 x.2) with
  | some y => decide (y.1 ≤ j) && decide (j < y.1 + (flat y.2).length)
  | none => false
def b2n (b : Bool) : Nat := if b then 1 else 0
/-- The queue, and what is seen: each spot is ahead once, or seen. -/
structure Walked (ot : Option Tr) (q : List (Nat × Nat)) (seen : List Bool) (n : Nat) : Prop where
  len : seen.length = (spo ot).length
  may : ∀ x ∈ q, x.1 ≤ 41 ∧ x.2 < 2 ^ x.1
  one : ∀ j, (hj : j < seen.length) → q.countP (holds ot j) + b2n seen[j] = 1
  cnt : n = seen.countP (· == true)
theorem walked_start (ot : Option Tr) : Walked ot [(0, 0)] (List.replicate (spo ot).length false) 0 := by
  refine ⟨by simp, by simp, fun j hj => ?_, ?_⟩
  · simp only [List.length_replicate] at hj
    cases ot with
    | none => simp [spo] at hj
    | some t => 
      have : holds (some t) j (0, 0) = true := by
        simp only [spo] at hj
        simp [holds, subO, path, sub_nil, hj]
      simp [this, b2n]
  · simp [List.countP_replicate]
theorem walked_le {ot : Option Tr} {q : List (Nat × Nat)} {seen : List Bool} {n : Nat} (h : Walked ot q seen n) : n ≤ (spo ot).length := by
  rw [h.cnt, ← h.len]
  exact List.countP_le_length
theorem walked_end {ot : Option Tr} {seen : List Bool} {n : Nat} (h : Walked ot [] seen n) : n = (spo ot).length := by
  rw [h.cnt, ← h.len, List.countP_eq_length]
  intro b hb
  obtain ⟨j, hj, rfl⟩ := List.getElem_of_mem hb
  have := h.one j hj
  simp only [List.countP_nil, b2n, Nat.zero_add] at this
  cases hs : seen[j] <;> simp_all
theorem walked_skip {ot : Option Tr} {k i : Nat} {q : List (Nat × Nat)} {seen : List Bool} {n : Nat} (h : Walked ot ((k, i) :: q) seen n) (hs : subO ot (path k i) = none) : Walked ot q seen n := by
  refine ⟨h.len, fun x hx => h.may x (List.mem_cons_of_mem _ hx), fun j hj => ?_, h.cnt⟩
  have := h.one j hj
  rw [List.countP_cons_of_neg (by simp [holds, hs])] at this
  exact this
theorem countP_set {l : List Bool} {o : Nat} (ho : o < l.length) (hf : l[o] = false) : (l.set o true).countP (· == true) = l.countP (· == true) + 1 := by
  induction l generalizing o with
  | nil => simp at ho
  | cons b l ih =>
    cases o with
    | zero =>
      simp only [List.getElem_cons_zero] at hf
      subst hf
      simp
    | succ o =>
      simp only [List.set_cons_succ, List.countP_cons]
      rw [ih (by simpa using ho) (by simpa using hf)]
      omega
theorem walked_see {ot : Option Tr} {k i : Nat} {q : List (Nat × Nat)} {seen : List Bool} {n o : Nat} {u : Tr} (h : Walked ot ((k, i) :: q) seen n) (hs : subO ot (path k i) = some (o, u)) (hh : htO ot ≤ 40) :
    k ≤ 40 ∧ n < (spo ot).length ∧ ∃ ho : o < seen.length, seen[o] = false ∧ Walked ot (q ++ [(k + 1, 2 * i), (k + 1, 2 * i + 1)]) (seen.set o true) (n + 1) := by
  obtain ⟨t, rfl⟩ : ∃ t, ot = some t := by
    cases ot with
    | none => cases hs
    | some t => exact ⟨t, rfl⟩
  have hsub : sub t (path k i) = some (o, u) := hs
  have h1 := sub_high t _ o u hsub
  have h2 := ht_nonneg u
  have h3 := sub_le hsub
  have h4 := flat_pos u
  rw [path_length] at h1
  have hh : ht t ≤ 40 := hh
  have hk : k ≤ 40 := by omega
  have hsl : seen.length = (flat t).length := h.len
  have ho : o < seen.length := by omega
  have hox : holds (some t) o (k, i) = true := by
    simp [holds, hs]; omega
  have hz := h.one o ho
  rw [List.countP_cons_of_pos hox] at hz
  have hf : seen[o] = false := by
    cases hb : seen[o] with
    | false => rfl
    | true => rw [hb] at hz; simp [b2n] at hz
  have hcs := countP_set ho hf
  refine ⟨hk, ?_, ho, hf, ⟨by simpa using h.len, ?_, ?_, by rw [hcs, h.cnt]⟩⟩
  · have := List.countP_le_length (p := (· == true)) (l := seen.set o true)
    rw [hcs, List.length_set, ← h.cnt] at this
    rw [h.len] at this
    omega
  · intro x hx
    rcases List.mem_append.1 hx with hx | hx
    · exact h.may x (List.mem_cons_of_mem _ hx)
    · have := (h.may (k, i) (List.mem_cons_self ..)).2
      simp only [List.mem_cons, List.not_mem_nil, or_false] at hx
      rcases hx with rfl | rfl
      · refine ⟨by simp; omega, ?_⟩
        simp only [Nat.pow_succ] at *; omega
      · refine ⟨by simp; omega, ?_⟩
        simp only [Nat.pow_succ] at *; omega
  · intro j hj
    simp only [List.length_set] at hj
    have hz := h.one j hj
    rw [List.countP_cons] at hz
    rw [List.countP_append, List.countP_cons, List.countP_cons, List.countP_nil]
    have hl := path_snoc k i false
    have hr := path_snoc k i true
    simp only [Bool.false_eq_true, if_false, if_true, Nat.add_zero] at hl hr
    rw [List.getElem_set]
    clear hox hcs h1 h2 h4
    cases u with
    | leaf a b =>
      have kl : holds (some t) j (k + 1, 2 * i) = false := by simp only [holds, subO, hl, sub_snoc, hsub]
      have kr : holds (some t) j (k + 1, 2 * i + 1) = false := by simp only [holds, subO, hr, sub_snoc, hsub]
      have kx : holds (some t) j (k, i) = (decide (o ≤ j) && decide (j < o + 1)) := by simp [holds, hs, flat]
      rw [kl, kr]
      rw [kx] at hz
      by_cases hjo : o = j
      · subst hjo
        rw [if_pos rfl]
        rw [hf] at hz
        simp [b2n] at hz ⊢
        exact hz
      · rw [if_neg hjo]
        have : (decide (o ≤ j) && decide (j < o + 1)) = false := by simp; omega
        simpa [this] using hz
    | inner a b l r =>
      have kl : holds (some t) j (k + 1, 2 * i) = (decide (o + 1 ≤ j) && decide (j < o + 1 + (flat l).length)) := by simp only [holds, subO, hl, sub_snoc, hsub]; rfl
      have kr : holds (some t) j (k + 1, 2 * i + 1) = (decide (o + 1 + (flat l).length ≤ j) && decide (j < o + 1 + (flat l).length + (flat r).length)) := by simp only [holds, subO, hr, sub_snoc, hsub]; rfl
      have kx : holds (some t) j (k, i) = (decide (o ≤ j) && decide (j < o + ((flat l).length + (flat r).length + 1))) := by simp [holds, hs, flat]
      rw [kl, kr]
      rw [kx] at hz
      simp only [Bool.and_eq_true, decide_eq_true_eq] at hz ⊢
      by_cases hjo : o = j
      · subst hjo
        rw [if_pos rfl]
        rw [hf, if_pos (by omega)] at hz
        rw [if_neg (by omega), if_neg (by omega)]
        simp [b2n] at hz ⊢
        exact hz
      · rw [if_neg hjo]
        refine Eq.trans ?_ hz
        by_cases c1 : o + 1 ≤ j ∧ j < o + 1 + (flat l).length
        · rw [if_pos c1, if_neg (by omega), if_pos (by omega)]
        · rw [if_neg c1]
          by_cases c2 : o + 1 + (flat l).length ≤ j ∧ j < o + 1 + (flat l).length + (flat r).length
          · rw [if_pos c2, if_pos (by omega)]
          · rw [if_neg c2, if_neg (by omega)]

end Go.Proofs.Ytoddcpkogapolaa
