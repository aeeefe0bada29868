import Derived.Test.YtkmlnglmecjmeaaLabB
/- Trees without some of their leaves, and two trees as halves of one, plainly. Of no program. No condition but those named. -/
namespace Go.Proofs.Ytkmlnglmecjmeaa
open Go.RowKit
set_option linter.unusedVariables false

/-- Two halves, where one of them may be gone. -/
def joinO : Option Tr → Option Tr → Option Tr
  | none, x => x
  | some l, none => some l
  | some l, some r => some (.inner 0 0 l r)
/-- Without all who are not among these. -/
def keepT (K : List (Int × Int)) : Tr → Option Tr
  | .leaf a b => if (a, b) ∈ K then some (Tr.leaf a b) else none
  | .inner _ _ l r => joinO (keepT K l) (keepT K r)
def keepO (K : List (Int × Int)) : Option Tr → Option Tr
  | none => none
  | some t => keepT K t
/-- The leaves' members. -/
def lvO (ot : Option Tr) : List (Int × Int) := lv (spo ot)
theorem lvO_none : lvO none = [] := rfl
theorem lvO_leaf (a b : Int) : lvO (some (.leaf a b)) = [(a, b)] := rfl
theorem lvO_inner (a b : Int) (l r : Tr) : lvO (some (.inner a b l r)) = lvO (some l) ++ lvO (some r) := by
  unfold lvO
  rw [← lv_append]; rfl
theorem joinO_none (x : Option Tr) : joinO x none = x := by cases x <;> rfl
theorem lvO_join (x y : Option Tr) : lvO (joinO x y) = lvO x ++ lvO y := by
  cases x with
  | none => simp [joinO, lvO_none]
  | some l =>
    cases y with
    | none => simp [joinO, lvO_none]
    | some r => exact lvO_inner 0 0 l r
theorem spo_nil_iff (x : Option Tr) : spo x = [] ↔ x = none := by
  cases x with
  | none => simp [spo]
  | some t => simp [spo, flat_ne]
theorem spo_join (x y : Option Tr) : spo (joinO x y) = if spo x = [] then spo y else if spo y = [] then spo x else (false, 0, 0) :: (spo x ++ spo y) := by
  cases x with
  | none => simp [joinO, spo]
  | some l =>
    cases y with
    | none => simp [joinO, spo, flat_ne]
    | some r => simp [joinO, spo, flat_ne, flat]
theorem len_join (x y : Option Tr) : (spo (joinO x y)).length ≤ 1 + (spo x).length + (spo y).length := by
  rw [spo_join]
  split
  · omega
  · split
    · omega
    · simp only [List.length_cons, List.length_append]; omega
theorem htO_join (x y : Option Tr) : htO (joinO x y) ≤ 1 + max (htO x) (htO y) := by
  cases x with
  | none => simp only [joinO, htO]; omega
  | some l =>
    have := ht_nonneg l
    cases y with
    | none => simp only [joinO, htO]; omega
    | some r => simp only [joinO, htO, ht]; omega
theorem noWho_join {x y : Option Tr} (hx : (spo x).all noWho = true) (hy : (spo y).all noWho = true) : (spo (joinO x y)).all noWho = true := by
  rw [spo_join]
  split
  · exact hy
  · split
    · exact hx
    · rw [List.all_cons, List.all_append, hx, hy]
      rfl
theorem keep_join (K : List (Int × Int)) (x y : Option Tr) : keepO K (joinO x y) = joinO (keepO K x) (keepO K y) := by
  cases x with
  | none => rfl
  | some l =>
    cases y with
    | none => exact (joinO_none _).symm
    | some r => rfl
theorem lvO_keep (K : List (Int × Int)) : ∀ ot : Option Tr, lvO (keepO K ot) = (lvO ot).filter fun m => decide (m ∈ K)
  | none => rfl
  | some (.leaf a b) => by
    show lvO (if (a, b) ∈ K then some (Tr.leaf a b) else none) = _
    by_cases h : (a, b) ∈ K
    · rw [if_pos h, lvO_leaf]; simp [h]
    · rw [if_neg h, lvO_leaf, lvO_none]; simp [h]
  | some (.inner a b l r) => by
    show lvO (joinO (keepO K (some l)) (keepO K (some r))) = _
    rw [lvO_join, lvO_keep K (some l), lvO_keep K (some r), lvO_inner, List.filter_append]
theorem len_keep (K : List (Int × Int)) : ∀ ot : Option Tr, (spo (keepO K ot)).length ≤ (spo ot).length
  | none => Nat.le_refl _
  | some (.leaf a b) => by
    show (spo (if (a, b) ∈ K then some (Tr.leaf a b) else none)).length ≤ _
    by_cases h : (a, b) ∈ K
    · rw [if_pos h]; exact Nat.le_refl _
    · rw [if_neg h]; exact Nat.zero_le _
  | some (.inner a b l r) => by
    show (spo (joinO (keepO K (some l)) (keepO K (some r)))).length ≤ (flat (.inner a b l r)).length
    have h1 := len_join (keepO K (some l)) (keepO K (some r))
    have h2 := len_keep K (some l)
    have h3 := len_keep K (some r)
    have h4 : (flat (.inner a b l r)).length = 1 + (spo (some l)).length + (spo (some r)).length := by simp [flat, spo]; omega
    omega
theorem ht_keep (K : List (Int × Int)) : ∀ ot : Option Tr, htO (keepO K ot) ≤ htO ot
  | none => Int.le_refl _
  | some (.leaf a b) => by
    show htO (if (a, b) ∈ K then some (Tr.leaf a b) else none) ≤ _
    by_cases h : (a, b) ∈ K
    · rw [if_pos h]; exact Int.le_refl _
    · rw [if_neg h]; simp [htO, ht]
  | some (.inner a b l r) => by
    show htO (joinO (keepO K (some l)) (keepO K (some r))) ≤ 1 + max (ht l) (ht r)
    have h1 := htO_join (keepO K (some l)) (keepO K (some r))
    have h2 : htO (keepO K (some l)) ≤ ht l := ht_keep K (some l)
    have h3 : htO (keepO K (some r)) ≤ ht r := ht_keep K (some r)
    omega
theorem noWho_keep (K : List (Int × Int)) : ∀ ot : Option Tr, (spo (keepO K ot)).all noWho = true
  | none => rfl
  | some (.leaf a b) => by
    show (spo (if (a, b) ∈ K then some (Tr.leaf a b) else none)).all noWho = true
    by_cases h : (a, b) ∈ K
    · rw [if_pos h]; rfl
    · rw [if_neg h]; rfl
  | some (.inner a b l r) => noWho_join (noWho_keep K (some l)) (noWho_keep K (some r))
theorem once_take (m : List (Int × Int)) : ∀ k, k ≤ m.length → ((List.range k).all (okAt m) = true ↔ (∀ x ∈ m.take k, okM x.1 x.2 = true) ∧ (m.take k).Nodup)
  | 0, _ => by simp
  | k + 1, hk => by
    have hlt : k < m.length := by omega
    have ih := once_take m k (by omega)
    have e : m.getD k (0, 0) = m[k] := by simp [hlt]
    rw [List.range_succ, List.all_append, Bool.and_eq_true, ih, List.take_succ_eq_append_getElem hlt, List.nodup_append]
    simp only [List.all_cons, List.all_nil, Bool.and_true, okAt, e, Bool.and_eq_true, Bool.not_eq_true', decide_eq_false_iff_not, List.mem_append, List.mem_singleton]
    constructor
    · rintro ⟨⟨h1, h2⟩, h3, h4⟩
      refine ⟨?_, h2, by simp, ?_⟩
      · rintro x (hx | rfl)
        · exact h1 x hx
        · exact h3
      · rintro a ha b rfl rfl
        exact h4 ha
    · rintro ⟨h1, h2, -, h4⟩
      exact ⟨⟨fun x hx => h1 x (Or.inl hx), h2⟩, h1 _ (Or.inr rfl), fun h => h4 _ h _ rfl rfl⟩
/-- Each may be, none is there twice: in other words. -/
theorem once_iff (m : List (Int × Int)) : once m = true ↔ (∀ x ∈ m, okM x.1 x.2 = true) ∧ m.Nodup := by
  have := once_take m m.length (Nat.le_refl _)
  rwa [List.take_of_length_le (Nat.le_refl _)] at this
theorem once_filter {m : List (Int × Int)} (h : once m = true) (p : Int × Int → Bool) : once (m.filter p) = true := by
  rw [once_iff] at h ⊢
  exact ⟨fun x hx => h.1 x (List.mem_filter.1 hx).1, List.Pairwise.filter _ h.2⟩
theorem okT_of {ot : Option Tr} (h1 : (spo ot).length ≤ 128) (h2 : (spo ot).all noWho = true) (h3 : once (lvO ot) = true) : okT (spo ot) = true := by
  cases ot with
  | none => rfl
  | some t =>
    have h4 : endI (spo (some t)) 0 = ((spo (some t)).length : Int) := endI_flat t
    have h5 : once (lv (spo (some t))) = true := h3
    unfold okT
    rw [decide_eq_true h1, h2, h5, h4]
    simp
theorem okT_keep {ot : Option Tr} (h : okT (spo ot) = true) (K : List (Int × Int)) : okT (spo (keepO K ot)) = true := by
  obtain ⟨h1, h2, h3⟩ := okT_parts h
  refine okT_of (Nat.le_trans (len_keep K ot) h1) (noWho_keep K ot) ?_
  rw [lvO_keep]
  exact once_filter h3 _
theorem keep_congr {K J : List (Int × Int)} : ∀ {ot : Option Tr}, (∀ m ∈ lvO ot, m ∈ K ↔ m ∈ J) → keepO K ot = keepO J ot
  | none, _ => rfl
  | some (.leaf a b), h => by
    have := h (a, b) (by rw [lvO_leaf]; simp)
    show (if (a, b) ∈ K then some (Tr.leaf a b) else none) = if (a, b) ∈ J then some (Tr.leaf a b) else none
    simp only [this]
  | some (.inner a b l r), h => by
    rw [lvO_inner] at h
    show joinO (keepO K (some l)) (keepO K (some r)) = joinO (keepO J (some l)) (keepO J (some r))
    rw [keep_congr (ot := some l) fun m hm => h m (List.mem_append_left _ hm), keep_congr (ot := some r) fun m hm => h m (List.mem_append_right _ hm)]
theorem keep_keep (K J : List (Int × Int)) : ∀ ot : Option Tr, keepO K (keepO J ot) = keepO (J.filter fun m => decide (m ∈ K)) ot
  | none => rfl
  | some (.leaf a b) => by
    show keepO K (if (a, b) ∈ J then some (Tr.leaf a b) else none) = if (a, b) ∈ J.filter (fun m => decide (m ∈ K)) then some (Tr.leaf a b) else none
    by_cases h : (a, b) ∈ J
    · rw [if_pos h]
      show (if (a, b) ∈ K then some (Tr.leaf a b) else none) = _
      by_cases h' : (a, b) ∈ K
      · rw [if_pos h', if_pos (by simp [h, h'])]
      · rw [if_neg h', if_neg (by simp [h'])]
    · rw [if_neg h, if_neg (by simp [h])]
      rfl
  | some (.inner a b l r) => by
    show keepO K (joinO (keepO J (some l)) (keepO J (some r))) = joinO (keepO _ (some l)) (keepO _ (some r))
    rw [keep_join, keep_keep K J (some l), keep_keep K J (some r)]
theorem keep_all {K : List (Int × Int)} : ∀ {ot : Option Tr}, (spo ot).all noWho = true → (∀ m ∈ lvO ot, m ∈ K) → keepO K ot = ot
  | none, _, _ => rfl
  | some (.leaf a b), _, h => by
    show (if (a, b) ∈ K then some (Tr.leaf a b) else none) = _
    rw [if_pos (h _ (by rw [lvO_leaf]; simp))]
  | some (.inner a b l r), hw, h => by
    rw [lvO_inner] at h
    have hw' : (noWho (false, a, b) && ((flat l ++ flat r).all noWho)) = true := hw
    rw [List.all_append, Bool.and_eq_true, Bool.and_eq_true] at hw'
    obtain ⟨h0, h1, h2⟩ := hw'
    simp only [noWho, Bool.false_or, Bool.and_eq_true, beq_iff_eq] at h0
    obtain ⟨rfl, rfl⟩ := h0
    show joinO (keepO K (some l)) (keepO K (some r)) = _
    rw [keep_all (ot := some l) h1 fun m hm => h m (List.mem_append_left _ hm), keep_all (ot := some r) h2 fun m hm => h m (List.mem_append_right _ hm)]
    rfl
theorem keep_none {K : List (Int × Int)} {ot : Option Tr} (h : ∀ m ∈ lvO ot, m ∉ K) : keepO K ot = none := by
  have e := lvO_keep K ot
  rw [List.filter_eq_nil_iff.2 (by simpa using h)] at e
  rw [← spo_nil_iff]
  cases hk : keepO K ot with
  | none => rfl
  | some t =>
    rw [hk] at e
    have h1 := flat_counts t
    have h2 : lv (flat t) = [] := e
    rw [h2] at h1
    simp at h1
/-- Without one. -/
def withoutO (m : Int × Int) (ot : Option Tr) : Option Tr := keepO ((lvO ot).filter fun x => decide (x ≠ m)) ot
theorem without_lv (m : Int × Int) (ot : Option Tr) : lvO (withoutO m ot) = (lvO ot).filter fun x => decide (x ≠ m) := by
  unfold withoutO
  rw [lvO_keep]
  apply List.filter_congr
  intro x hx
  simp [hx]
theorem without_eq {m : Int × Int} {ot : Option Tr} {K : List (Int × Int)} (h : ∀ x ∈ lvO ot, x ∈ K ↔ x ≠ m) : withoutO m ot = keepO K ot := by
  unfold withoutO
  apply keep_congr
  intro x hx
  rw [h x hx]
  simp [hx]
/-- One by one, in either order. -/
theorem without_two (a b : Int × Int) (ot : Option Tr) : withoutO b (withoutO a ot) = keepO ((lvO ot).filter fun x => decide (x ≠ a) && decide (x ≠ b)) ot := by
  show keepO ((lvO (withoutO a ot)).filter fun x => decide (x ≠ b)) (keepO ((lvO ot).filter fun x => decide (x ≠ a)) ot) = _
  rw [keep_keep, without_lv]
  apply keep_congr
  intro x hx
  simp [hx, and_comm]
theorem without_swap (a b : Int × Int) (ot : Option Tr) : withoutO b (withoutO a ot) = withoutO a (withoutO b ot) := by
  rw [without_two, without_two]
  congr 1
  apply List.filter_congr
  intro x _
  rw [Bool.and_comm]
theorem without_same {m : Int × Int} {ot : Option Tr} (hw : (spo ot).all noWho = true) (h : m ∉ lvO ot) : withoutO m ot = ot := by
  unfold withoutO
  apply keep_all hw
  intro x hx
  refine List.mem_filter.2 ⟨hx, ?_⟩
  rw [decide_eq_true_eq]
  rintro rfl
  exact h hx
theorem okT_without {ot : Option Tr} (h : okT (spo ot) = true) (m : Int × Int) : okT (spo (withoutO m ot)) = true := okT_keep h _

end Go.Proofs.Ytkmlnglmecjmeaa
