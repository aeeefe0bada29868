import Derived.Test.YtkmlnglmecjmeaaGraB
import Derived.Test.YtkmlnglmecjmeaaLabCA
/- The places of a tree, level by level from left to right; which of them is found first, level by level from the right. Plainly; of no program. No condition but those named. -/
namespace Go.Proofs.Ytkmlnglmecjmeaa
open Go.RowKit
set_option linter.unusedVariables false

/-- The halves of a place. -/
def kidsO : Nat × Option Tr → List (Nat × Option Tr)
  | (i, some (.inner _ _ l r)) => [(2 * i, some l), (2 * i + 1, some r)]
  | _ => []
/-- The places of a level: which of the level, what is there. -/
def levO (x : Option Tr) : Nat → List (Nat × Option Tr)
  | 0 => [(0, x)]
  | k + 1 => (levO x k).flatMap kidsO
theorem kids_len (e : Nat × Option Tr) : (kidsO e).length ≤ 2 := by
  obtain ⟨i, o⟩ := e
  rcases o with _ | (_ | _)
  · simp [kidsO]
  · simp [kidsO]
  · simp [kidsO]
theorem flat_kids_len : ∀ (l : List (Nat × Option Tr)), (l.flatMap kidsO).length ≤ 2 * l.length
  | [] => by simp
  | e :: l => by
    have h1 := kids_len e
    have h2 := flat_kids_len l
    simp only [List.flatMap_cons, List.length_append, List.length_cons]
    omega
theorem lev_len (x : Option Tr) : ∀ k, (levO x k).length ≤ 2 ^ k
  | 0 => by simp [levO]
  | k + 1 => by
    have h1 := lev_len x k
    have h2 := flat_kids_len (levO x k)
    simp only [levO]
    omega
theorem lev_asc (x : Option Tr) : ∀ k, (levO x k).Pairwise (fun a b => a.1 < b.1)
  | 0 => by simp [levO]
  | k + 1 => by
    simp only [levO]
    rw [List.pairwise_flatMap]
    refine ⟨fun e _ => ?_, (lev_asc x k).imp ?_⟩
    · obtain ⟨i, o⟩ := e
      rcases o with _ | (_ | _)
      · simp [kidsO]
      · simp [kidsO]
      · simp [kidsO]
    · rintro ⟨i, o⟩ ⟨j, q⟩ hij a ha b hb
      have h1 : a.1 ≤ 2 * i + 1 := by
        rcases o with _ | (_ | _)
        · simp [kidsO] at ha
        · simp [kidsO] at ha
        · simp [kidsO] at ha; rcases ha with rfl | rfl <;> simp
      have h2 : 2 * j ≤ b.1 := by
        rcases q with _ | (_ | _)
        · simp [kidsO] at hb
        · simp [kidsO] at hb
        · simp [kidsO] at hb; rcases hb with rfl | rfl <;> simp
      have h3 : i < j := hij
      omega
theorem lev_none : ∀ k, levO none (k + 1) = []
  | 0 => rfl
  | k + 1 => by
    show (levO none (k + 1)).flatMap kidsO = []
    rw [lev_none k]; rfl
theorem lev_out (t : Tr) : ∀ (k i : Nat) (q : Option Tr), (i, q) ∈ levO (some t) k → i < 2 ^ k ∧ ∃ o u, q = some u ∧ sub t (path k i) = some (o, u)
  | 0, i, q, h => by
    simp only [levO, List.mem_singleton, Prod.mk.injEq] at h
    obtain ⟨rfl, rfl⟩ := h
    exact ⟨by simp, 0, t, rfl, by simp [path, sub_nil]⟩
  | k + 1, i, q, h => by
    simp only [levO, List.mem_flatMap] at h
    obtain ⟨⟨j, p⟩, h1, h2⟩ := h
    obtain ⟨h3, o, u, rfl, h4⟩ := lev_out t k j p h1
    cases u with
    | leaf a b => simp [kidsO] at h2
    | inner a b l r =>
      simp only [kidsO, List.mem_cons, Prod.mk.injEq, List.not_mem_nil, or_false] at h2
      rcases h2 with ⟨rfl, rfl⟩ | ⟨rfl, rfl⟩
      · refine ⟨by omega, ?_⟩
        have hp := path_snoc k j false
        have hs := sub_snoc t (path k j) false
        rw [h4] at hs
        simp only [Bool.false_eq_true, if_false, Nat.add_zero] at hp
        rw [hp, hs]
        exact ⟨_, l, rfl, rfl⟩
      · refine ⟨by omega, ?_⟩
        have hp := path_snoc k j true
        have hs := sub_snoc t (path k j) true
        rw [h4] at hs
        simp only [if_true] at hp
        rw [hp, hs]
        exact ⟨_, r, rfl, rfl⟩
theorem lev_in (t : Tr) : ∀ (k i o : Nat) (u : Tr), i < 2 ^ k → sub t (path k i) = some (o, u) → (i, some u) ∈ levO (some t) k
  | 0, i, o, u, hi, h => by
    have : i = 0 := by simpa using hi
    subst this
    simp only [path, sub_nil, Option.some.injEq, Prod.mk.injEq] at h
    obtain ⟨-, rfl⟩ := h
    simp [levO]
  | k + 1, i, o, u, hi, h => by
    simp only [levO, List.mem_flatMap]
    have hb : ∃ b : Bool, 2 * (i / 2) + (if b then 1 else 0) = i := by
      rcases Nat.mod_two_eq_zero_or_one i with h0 | h0
      · exact ⟨false, by simp; omega⟩
      · exact ⟨true, by simp; omega⟩
    obtain ⟨b, hb⟩ := hb
    have hp := path_snoc k (i / 2) b
    rw [hb] at hp
    rw [hp, sub_snoc] at h
    cases hs : sub t (path k (i / 2)) with
    | none => rw [hs] at h; cases h
    | some q =>
      obtain ⟨o', v⟩ := q
      rw [hs] at h
      have ih := lev_in t k (i / 2) o' v (by omega) hs
      cases v with
      | leaf a c => simp at h
      | inner a c l r =>
        refine ⟨_, ih, ?_⟩
        cases b
        · simp at h hb
          simp [kidsO, h.2, hb]
        · simp at h hb
          simp [kidsO, h.2, hb]
theorem lev_high {t : Tr} {k i : Nat} {q : Option Tr} (h : (i, q) ∈ levO (some t) k) : (k : Int) ≤ ht t := by
  obtain ⟨-, o, u, -, hs⟩ := lev_out t k i q h
  have h1 := sub_high t _ o u hs
  rw [path_length] at h1
  have h2 := ht_nonneg u
  omega
theorem lev_gone {x : Option Tr} {k : Nat} (h : levO x k = []) : ∀ d, levO x (k + d) = []
  | 0 => h
  | d + 1 => by
    show (levO x (k + d)).flatMap kidsO = []
    rw [lev_gone h d]; rfl
/-- Does one so high fit in beside what is there? -/
def fitsO (x : Option Tr) (h : Int) (k : Nat) (q : Option Tr) : Bool := decide (max (htO q) h < htO x - (k : Int))
theorem fits_low {h : Int} (h0 : -1 ≤ h) (k : Nat) (q : Option Tr) : fitsO none h k q = false := by
  have : htO none = -1 := rfl
  unfold fitsO
  rw [this]
  exact decide_eq_false (by omega)
theorem fits_is (t : Tr) (h : Int) {k i o : Nat} {u : Tr} (hs : sub t (path k i) = some (o, u)) : fitsL t h k i = fitsO (some t) h k (some u) := by
  unfold fitsL fitsO
  rw [hs]
  show decide ((k : Int) + 1 + max (ht u) h ≤ ht t) = decide (max (ht u) h < ht t - (k : Int))
  exact decide_eq_decide.2 (by omega)
theorem scanI_is {f : Nat → Bool} {i : Nat} (hi : f i = true) : ∀ {n : Nat}, i < n → (∀ j, i < j → j < n → f j = false) → scanI f n = some i
  | n + 1, h, hj => by
    by_cases hin : i = n
    · subst hin; exact scanI_here hi
    · rw [scanI_step (hj n (by omega) (by omega))]
      exact scanI_is hi (by omega) fun j h1 h2 => hj j h1 (by omega)
theorem scanI_no {f : Nat → Bool} : ∀ {n : Nat}, (∀ j, j < n → f j = false) → scanI f n = none
  | 0, _ => rfl
  | n + 1, h => by
    rw [scanI_step (h n (by omega))]
    exact scanI_no fun j hj => h j (by omega)
theorem scanL_is {g : Nat → Option Nat} {k i : Nat} (hk : g k = some i) : ∀ {n a : Nat}, a ≤ k → k < a + n → (∀ j, a ≤ j → j < k → g j = none) → scanL g a n = some (k, i)
  | 0, a, h1, h2, _ => by omega
  | n + 1, a, h1, h2, h3 => by
    by_cases hak : a = k
    · subst hak; exact scanL_here hk
    · rw [scanL_step (h3 a (by omega) (by omega))]
      exact scanL_is hk (by omega) (by omega) fun j h4 h5 => h3 j (by omega) h5
theorem scanL_no {g : Nat → Option Nat} : ∀ {n a : Nat}, (∀ j, a ≤ j → j < a + n → g j = none) → scanL g a n = none
  | 0, a, _ => rfl
  | n + 1, a, h => by
    rw [scanL_step (h a (by omega) (by omega))]
    exact scanL_no fun j h1 h2 => h j (by omega) (by omega)
/-- None of a level's fits. -/
theorem lev_scan_no {t : Tr} {h : Int} {k : Nat} (hn : ∀ e ∈ levO (some t) k, fitsO (some t) h k e.2 = false) : scanI (fitsL t h k) (2 ^ k) = none :=
  scanI_no fun j hj => by
    cases hs : sub t (path k j) with
    | none => simp [fitsL, hs]
    | some q =>
      obtain ⟨o, u⟩ := q
      rw [fits_is t h hs]
      exact hn _ (lev_in t k j o u hj hs)
theorem place_found {x : Option Tr} {h : Int} {k i : Nat} {q : Option Tr} {A B : List (Nat × Option Tr)} (h0 : -1 ≤ h) (hh : htO x ≤ 40) (hl : levO x k = A ++ (i, q) :: B) (hf : fitsO x h k q = true) (hB : ∀ b ∈ B, fitsO x h k b.2 = false)
    (hN : ∀ j, j < k → ∀ e ∈ levO x j, fitsO x h j e.2 = false) : placeO x h = ((k : Int), (i : Int)) := by
  cases x with
  | none => rw [fits_low h0] at hf; cases hf
  | some t =>
    have hm : (i, q) ∈ levO (some t) k := by rw [hl]; simp
    obtain ⟨hi, o, u, rfl, hs⟩ := lev_out t k i q hm
    have hk := lev_high hm
    have hht : ht t ≤ 40 := hh
    have e1 : scanI (fitsL t h k) (2 ^ k) = some i := by
      refine scanI_is (by rw [fits_is t h hs]; exact hf) hi fun j hij hj => ?_
      cases hsj : sub t (path k j) with
      | none => simp [fitsL, hsj]
      | some z =>
        obtain ⟨o', v⟩ := z
        rw [fits_is t h hsj]
        have hmj := lev_in t k j o' v hj hsj
        have ha := lev_asc (some t) k
        rw [hl] at hmj ha
        rw [List.pairwise_append] at ha
        rcases List.mem_append.1 hmj with hA | hA
        · have := ha.2.2 _ hA (i, some u) (by simp)
          simp only at this
          omega
        · rcases List.mem_cons.1 hA with e | hA
          · simp only [Prod.mk.injEq] at e; omega
          · exact hB _ hA
    have e2 : placeF t h = some (k, i) := by
      unfold placeF
      refine scanL_is ?_ (Nat.zero_le _) (by omega) fun j _ hj => ?_
      · rw [show min k 40 = k by omega]; exact e1
      · show scanI (fitsL t h j) (2 ^ min j 40) = none
        rw [show min j 40 = j by omega]
        exact lev_scan_no (hN j hj)
    simp only [placeO, e2]
theorem place_nowhere {x : Option Tr} {h : Int} {k : Nat} (hh : htO x ≤ 40) (hl : levO x k = []) (hN : ∀ j, j < k → ∀ e ∈ levO x j, fitsO x h j e.2 = false) : placeO x h = (0, 0) := by
  cases x with
  | none => rfl
  | some t =>
    have hht : ht t ≤ 40 := hh
    have e2 : placeF t h = none := by
      unfold placeF
      refine scanL_no fun j _ hj => ?_
      show scanI (fitsL t h j) (2 ^ min j 40) = none
      have := ht_nonneg t
      rw [show min j 40 = j by omega]
      by_cases hjk : j < k
      · exact lev_scan_no (hN j hjk)
      · refine lev_scan_no fun e he => ?_
        have := lev_gone hl (j - k)
        rw [show k + (j - k) = j by omega] at this
        rw [this] at he
        cases he
    simp only [placeO, e2]
/-- A level that there is isn't deeper than the tree is high. -/
theorem lev_deep {x : Option Tr} {k : Nat} {e : Nat × Option Tr} (h : e ∈ levO x k) (hh : htO x ≤ 20) : k ≤ 20 ∧ e.1 < 2 ^ k := by
  cases x with
  | none =>
    cases k with
    | zero => simp only [levO, List.mem_singleton] at h; subst h; simp
    | succ k => rw [lev_none] at h; cases h
  | some t =>
    have h1 : ht t ≤ 20 := hh
    have h2 := lev_high (i := e.1) (q := e.2) h
    exact ⟨by omega, (lev_out t k e.1 e.2 h).1⟩

end Go.Proofs.Ytkmlnglmecjmeaa
