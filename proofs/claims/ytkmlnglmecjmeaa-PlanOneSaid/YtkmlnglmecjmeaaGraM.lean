import Derived.Test.YtkmlnglmecjmeaaGraT
import Derived.Test.YtkmlnglmecjmeaaPhaseA
/- The document's Merge of layer 12. Condition: the slice reads as at most 1,000 trees' spots, or nothings', each of at most 100,000 and 30 high, and so all that is grafted on the way. -/
namespace Go.Proofs.Ytkmlnglmecjmeaa
open Go Go.RowKit
set_option linter.unusedVariables false

/-- Put into an order. -/
def insG (x : Option Tr) : List (Option Tr) → List (Option Tr)
  | [] => [x]
  | y :: r => if aheadO x y then x :: y :: r else y :: insG x r
/-- Where. -/
def kIx (x : Option Tr) : List (Option Tr) → Nat
  | [] => 0
  | y :: r => if aheadO x y then 0 else kIx x r + 1
theorem kIx_le (x : Option Tr) : ∀ l, kIx x l ≤ l.length
  | [] => Nat.le_refl _
  | y :: r => by
    simp only [kIx]
    split
    · exact Nat.zero_le _
    · have := kIx_le x r; simp only [List.length_cons]; omega
theorem insG_eq (x : Option Tr) : ∀ l, insG x l = l.take (kIx x l) ++ x :: l.drop (kIx x l)
  | [] => rfl
  | y :: r => by
    simp only [insG, kIx]
    split
    · rfl
    · rw [insG_eq x r]; rfl
theorem insG_at {x : Option Tr} {l : List (Option Tr)} {k : Nat} (h : kIx x l = k) : insG x l = l.take k ++ ([x] ++ l.drop k) := by
  rw [insG_eq, h]; rfl
/-- The trees that aren't nothing, in order. -/
def sortG (xs : List (Option Tr)) : List (Option Tr) := xs.foldl (fun rest x => if x.isSome then insG x rest else rest) []
theorem sortG_snoc (xs : List (Option Tr)) (k : Nat) (h : k < xs.length) : sortG (xs.take (k + 1)) = if xs[k].isSome then insG xs[k] (sortG (xs.take k)) else sortG (xs.take k) := by
  unfold sortG
  rw [List.take_succ_eq_append_getElem h, List.foldl_append]
  rfl
theorem insG_len (x : Option Tr) (l : List (Option Tr)) : (insG x l).length = l.length + 1 := by
  rw [insG_eq]
  have := kIx_le x l
  simp only [List.length_append, List.length_cons, List.length_take, List.length_drop]
  omega
theorem sortG_len (xs : List (Option Tr)) (k : Nat) : k ≤ xs.length → (sortG (xs.take k)).length ≤ k := by
  induction k with
  | zero => intro _; simp [sortG]
  | succ k ih =>
    intro hk
    rw [sortG_snoc xs k (by omega)]
    have := ih (by omega)
    split
    · rw [insG_len]; omega
    · omega
theorem insG_mem {x y : Option Tr} {l : List (Option Tr)} (h : y ∈ insG x l) : y = x ∨ y ∈ l := by
  rw [insG_eq] at h
  rcases List.mem_append.1 h with h | h
  · exact Or.inr (List.mem_of_mem_take h)
  · rcases List.mem_cons.1 h with h | h
    · exact Or.inl h
    · exact Or.inr (List.mem_of_mem_drop h)
theorem sortG_mem (xs : List (Option Tr)) (k : Nat) : k ≤ xs.length → ∀ y ∈ sortG (xs.take k), y ∈ xs := by
  induction k with
  | zero => intro _ y hy; simp [sortG] at hy
  | succ k ih =>
    intro hk y hy
    rw [sortG_snoc xs k (by omega)] at hy
    split at hy
    · rcases insG_mem hy with rfl | h
      · exact List.getElem_mem _
      · exact ih (by omega) y h
    · exact ih (by omega) y hy
theorem kIx_step {x : Option Tr} {l : List (Option Tr)} {k : Nat} (h : k < l.length) (ha : aheadO x l[k] = false) (hk : kIx x l = k + kIx x (l.drop k)) : kIx x l = (k + 1) + kIx x (l.drop (k + 1)) := by
  rw [List.drop_eq_getElem_cons h] at hk
  simp only [kIx, ha] at hk
  simp at hk
  omega
theorem kIx_here {x : Option Tr} {l : List (Option Tr)} {k : Nat} (h : k < l.length) (ha : aheadO x l[k] = true) (hk : kIx x l = k + kIx x (l.drop k)) : kIx x l = k := by
  rw [List.drop_eq_getElem_cons h] at hk
  simp only [kIx, ha] at hk
  simpa using hk
theorem kIx_end {x : Option Tr} {l : List (Option Tr)} {k : Nat} (h : l.length ≤ k) (hk : kIx x l = k + kIx x (l.drop k)) : kIx x l = k := by
  rw [List.drop_of_length_le h] at hk
  simpa [kIx] using hk
def mergeO (xs : List (Option Tr)) : Option Tr := (sortG xs).foldl graftO none
set_option maxRecDepth 100000 in
/-- The first heads; those from one on. -/
theorem heads_to {n : Nat} {w : World} {hs : List Hd} {A : Option Addr} {m cap : Nat} (h : Heads n w hs [.slice A m cap]) (hm : hs.length = m) (hc : m ≤ cap) (j : Nat) (hj : j ≤ m) :
    ∃ A', (∀ wx, (Instr.slice 49 (.slice A m cap) none (some (.int .i64 (j : Int))) none).run Try.prog wx = .ok (.slice A' j cap) wx) ∧ Heads n w (hs.take j) [.slice A' j cap] := by
  subst hm
  have hS := slice_cut h 0 j (Nat.zero_le _) hj
  obtain ⟨A', e⟩ := sliced_is A 0 j cap 1
  rw [Nat.sub_zero, Nat.sub_zero] at e
  refine ⟨A', fun wx => ?_, ?_⟩
  · rw [run_slice_h _ _ _ _ _ Try.underlying49 _ _ (by omega) (by omega)]
    have es : (sizeOf (Try.prog.elem 49)).run Try.prog wx = .ok 1 wx := Try.sizeOf32 wx
    rw [es]
    simp only [Result.andThen, Int.toNat_natCast, e]
  · rw [e, Nat.sub_zero, List.drop_zero] at hS
    exact hS
set_option maxRecDepth 100000 in
theorem heads_from {n : Nat} {w : World} {hs : List Hd} {A : Option Addr} {m cap : Nat} (h : Heads n w hs [.slice A m cap]) (hm : hs.length = m) (i : Nat) (hi : i ≤ m) :
    ∃ A', (∀ wx, (Instr.slice 49 (.slice A m cap) (some (.int .i64 (i : Int))) none none).run Try.prog wx = .ok (.slice A' (m - i) (cap - i)) wx) ∧ Heads n w (hs.drop i) [.slice A' (m - i) (cap - i)] := by
  subst hm
  have hS := slice_cut h i hs.length hi (Nat.le_refl _)
  obtain ⟨A', e⟩ := sliced_is A i hs.length cap 1
  refine ⟨A', fun wx => ?_, ?_⟩
  · rw [run_slice_l _ _ _ _ _ Try.underlying49 _ _ (by omega) (by omega)]
    have es : (sizeOf (Try.prog.elem 49)).run Try.prog wx = .ok 1 wx := Try.sizeOf32 wx
    rw [es]
    simp only [Result.andThen, Int.toNat_natCast, e]
  · rw [e, List.take_of_length_le (by simp)] at hS
    exact hS
theorem each_at {n : Nat} {w : World} {hs : List Hd} {xs : List (Option Tr)} (h : Each n w hs xs) (i : Nat) (h1 : i < hs.length) (h2 : i < xs.length) : Spots n w (spo xs[i]) [.slice hs[i].1 hs[i].2.1 hs[i].2.2] :=
  h.2 i _ _ (List.getElem?_eq_getElem h1) (List.getElem?_eq_getElem h2)


end Go.Proofs.Ytkmlnglmecjmeaa
