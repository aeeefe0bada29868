import Derived.Test.YtlmkgkfildgkgaaLabB
/- Who speaks for a place of a tree, and for which places one speaks. Plain: of no program. No condition but those named. -/
namespace Go.Proofs.Ytlmkgkfildgkgaa
open Go.RowKit
set_option linter.unusedVariables false

/-- The rightmost member. -/
def lastM : Tr → Int × Int
  | .leaf a b => (a, b)
  | .inner _ _ _ r => lastM r
theorem lv_inner (a b : Int) (l r : Tr) : lv (flat (.inner a b l r)) = lv (flat l) ++ lv (flat r) := by
  rw [← lv_append]; rfl
theorem lv_leaf (a b : Int) : lv (flat (.leaf a b)) = [(a, b)] := rfl
theorem last_lv : ∀ t : Tr, ∃ ys, lv (flat t) = ys ++ [lastM t]
  | .leaf a b => ⟨[], rfl⟩
  | .inner a b l r => by
    obtain ⟨ys, e⟩ := last_lv r
    exact ⟨lv (flat l) ++ ys, by rw [lv_inner, e, List.append_assoc]; rfl⟩
theorem last_mem (t : Tr) : lastM t ∈ lv (flat t) := by
  obtain ⟨ys, e⟩ := last_lv t
  rw [e]; simp
/-- Who speaks for the part at a label. -/
def whoO (ot : Option Tr) (L I : Int) : (Int × Int) × Bool := if okL L I then (match subO ot (path L.toNat I.toNat) with | some x => (lastM x.2, true) | none => ((0, 0), false)) else ((0, 0), false)
theorem who_part (ot : Option Tr) (L I : Int) : (partO ot L I = [] ∧ whoO ot L I = ((0, 0), false)) ∨ ∃ u, partO ot L I = flat u ∧ whoO ot L I = (lastM u, true) := by
  unfold partO whoO
  by_cases h : okL L I = true
  · rw [if_pos h, if_pos h]
    cases hs : subO ot (path L.toNat I.toNat) with
    | none => left; exact ⟨rfl, rfl⟩
    | some x => right; exact ⟨x.2, rfl, rfl⟩
  · rw [if_neg h, if_neg h]
    left; exact ⟨rfl, rfl⟩
theorem who_nat (ot : Option Tr) {k i : Nat} (h1 : k ≤ 60) (h2 : i < 2 ^ k) : whoO ot (k : Int) (i : Int) = match subO ot (path k i) with | some x => (lastM x.2, true) | none => ((0, 0), false) := by
  unfold whoO
  rw [if_pos (okL_nat h1 h2)]
  simp
theorem who_sub (ot : Option Tr) (L I : Int) : (partO ot L I = [] ∧ whoO ot L I = ((0, 0), false)) ∨ ∃ (k i : Nat) (x : Nat × Tr), L = k ∧ I = i ∧ k ≤ 60 ∧ i < 2 ^ k ∧ subO ot (path k i) = some x ∧ partO ot L I = flat x.2 ∧ whoO ot L I = (lastM x.2, true) := by
  by_cases h : okL L I = true
  · obtain ⟨k, i, rfl, rfl, h1, h2⟩ := (okL_iff L I).1 h
    rw [who_nat ot h1 h2, partO_nat ot h1 h2]
    cases hs : subO ot (path k i) with
    | none => left; exact ⟨rfl, rfl⟩
    | some x => right; exact ⟨k, i, x, rfl, rfl, h1, h2, hs, rfl, rfl⟩
  · left
    unfold partO whoO
    rw [if_neg h, if_neg h]
    exact ⟨rfl, rfl⟩
theorem who_kids {ot : Option Tr} {k i o : Nat} {a b : Int} {l r : Tr} (h1 : k + 1 ≤ 60) (h2 : i < 2 ^ k) (h : subO ot (path k i) = some (o, .inner a b l r)) :
    whoO ot ((k : Int) + 1) (2 * (i : Int)) = (lastM l, true) ∧ whoO ot ((k : Int) + 1) (2 * (i : Int) + 1) = (lastM r, true) := by
  cases ot with
  | none => cases h
  | some t =>
    have h3 : sub t (path k i) = some (o, .inner a b l r) := h
    have hp : 2 ^ (k + 1) = 2 * 2 ^ k := by rw [Nat.pow_succ, Nat.mul_comm]
    have e0 := who_nat (some t) (k := k + 1) (i := 2 * i) h1 (by omega)
    have e1 := who_nat (some t) (k := k + 1) (i := 2 * i + 1) h1 (by omega)
    have p0 := path_snoc k i false
    have p1 := path_snoc k i true
    simp only [Bool.false_eq_true, if_false, Nat.add_zero, if_true] at p0 p1
    rw [p0] at e0
    rw [p1] at e1
    simp only [subO, sub_snoc, h3] at e0 e1
    have c1 : ((k + 1 : Nat) : Int) = (k : Int) + 1 := by omega
    have c2 : ((2 * i : Nat) : Int) = 2 * (i : Int) := by omega
    have c3 : ((2 * i + 1 : Nat) : Int) = 2 * (i : Int) + 1 := by omega
    rw [c1, c2] at e0
    rw [c1, c3] at e1
    exact ⟨by simpa using e0, by simpa using e1⟩
/-- The halves' rightmost are two, where each is there once. -/
theorem last_two {t : Tr} {p : List Bool} {o : Nat} {a b : Int} {l r : Tr} (hd : (lv (flat t)).Nodup) (h : sub t p = some (o, .inner a b l r)) : lastM r ≠ lastM l := by
  obtain ⟨x, y, e, _⟩ := sub_drop t p o _ h
  rw [e, lv_append, lv_append, lv_inner] at hd
  have h1 := (List.nodup_append.1 hd).2.1
  have h2 := (List.nodup_append.1 h1).1
  exact fun e => (List.nodup_append.1 h2).2.2 _ (last_mem l) _ (last_mem r) e.symm

/-- For which places a member speaks, the root left out: from its own up. -/
def spk (ot : Option Tr) (m x : Int × Int) : Bool := decide ((whoO ot x.1 x.2).1 = m) && decide (0 < x.1)
def speaksO (ot : Option Tr) (m : Int × Int) : List (Int × Int) := (wayO ot m).filter (spk ot m)

theorem last_all : ∀ (t : Tr) (m : Int × Int) (p : List Bool), off t m = some p → (lv (flat t)).Nodup → (lastM t = m ↔ p.all id = true)
  | .leaf a b, m, p, h, _ => by
    simp only [off] at h
    by_cases e : (a, b) = m
    · rw [if_pos e] at h
      simp only [Option.some.injEq] at h
      subst h e
      simp [lastM]
    · rw [if_neg e] at h; cases h
  | .inner a b l r, m, p, h, hd => by
    rw [lv_inner] at hd
    have hd2 := List.nodup_append.1 hd
    simp only [off] at h
    cases hl : off l m with
    | some q =>
      simp only [hl, Option.some.injEq] at h
      subst h
      have hm : m ∈ lv (flat l) := by
        refine Classical.byContradiction fun hc => ?_
        rw [(off_none l m).2 hc] at hl; cases hl
      simp only [List.all_cons, id_eq, Bool.false_and, Bool.false_eq_true, iff_false]
      intro e
      have := last_mem r
      exact hd2.2.2 m hm (lastM r) this e.symm
    | none =>
      simp only [hl, Option.map_eq_some_iff] at h
      obtain ⟨q, h1, rfl⟩ := h
      have := last_all r m q h1 hd2.2.1
      simp only [List.all_cons, id_eq, Bool.true_and]
      exact this
theorem last_at : ∀ (t : Tr) (m : Int × Int) (p : List Bool) (k : Nat), off t m = some p → (lv (flat t)).Nodup → ∃ o u, sub t (p.take k) = some (o, u) ∧ (lastM u = m ↔ (p.drop k).all id = true)
  | t, m, p, 0, h, hd => ⟨0, t, by rw [List.take_zero, sub_nil], by rw [List.drop_zero]; exact last_all t m p h hd⟩
  | .leaf a b, m, p, k + 1, h, hd => by
    have := last_all _ _ _ h hd
    simp only [off] at h
    by_cases e : (a, b) = m
    · rw [if_pos e] at h
      simp only [Option.some.injEq] at h
      subst h
      exact ⟨0, _, by rw [List.take_nil, sub_nil], by simpa using this⟩
    · rw [if_neg e] at h; cases h
  | .inner a b l r, m, p, k + 1, h, hd => by
    rw [lv_inner] at hd
    have hd2 := List.nodup_append.1 hd
    simp only [off] at h
    cases hl : off l m with
    | some q =>
      simp only [hl, Option.some.injEq] at h
      subst h
      obtain ⟨o, u, e1, e2⟩ := last_at l m q k hl hd2.1
      exact ⟨o + 1, u, by simp [sub, e1], by simpa using e2⟩
    | none =>
      simp only [hl, Option.map_eq_some_iff] at h
      obtain ⟨q, h1, rfl⟩ := h
      obtain ⟨o, u, e1, e2⟩ := last_at r m q k h1 hd2.2.1
      exact ⟨o + 1 + (flat l).length, u, by simp [sub, e1], by simpa using e2⟩

/-- How many places below the root one speaks for, by the way down to it. -/
def bt : List Bool → Nat
  | [] => 0
  | _ :: q => bt q + if q.all id then 1 else 0
def pth (t : Tr) (m : Int × Int) : List Bool := (off t m).getD []
theorem pth_left {a b : Int} {l r : Tr} {m : Int × Int} (h : m ∈ lv (flat l)) : pth (.inner a b l r) m = false :: pth l m := by
  cases hl : off l m with
  | none => exact absurd h ((off_none l m).1 hl)
  | some q => simp [pth, off, hl]
theorem pth_right {a b : Int} {l r : Tr} {m : Int × Int} (h : m ∉ lv (flat l)) (h' : m ∈ lv (flat r)) : pth (.inner a b l r) m = true :: pth r m := by
  have hl := (off_none l m).2 h
  cases hr : off r m with
  | none => exact absurd h' ((off_none r m).1 hr)
  | some q => simp [pth, off, hl, hr]
def al (p : List Bool) : Nat := if p.all id then 1 else 0
theorem sum_two (xs : List (Int × Int)) (f g : Int × Int → Nat) : (xs.map fun m => f m + g m).sum = (xs.map f).sum + (xs.map g).sum := by
  induction xs with
  | nil => rfl
  | cons x xs ih => simp only [List.map_cons, List.sum_cons, ih]; omega
theorem sum_zero (xs : List (Int × Int)) : (xs.map fun _ => 0).sum = 0 := by
  induction xs with
  | nil => rfl
  | cons x xs ih => simp only [List.map_cons, List.sum_cons, ih]
theorem sum_all : ∀ t : Tr, (lv (flat t)).Nodup → ((lv (flat t)).map fun m => al (pth t m)).sum = 1
  | .leaf a b, _ => by simp [lv_leaf, pth, off, al]
  | .inner a b l r, hd => by
    rw [lv_inner] at hd
    have hd2 := List.nodup_append.1 hd
    rw [lv_inner, List.map_append, List.sum_append]
    have e1 : (lv (flat l)).map (fun m => al (pth (.inner a b l r) m)) = (lv (flat l)).map fun _ => 0 :=
      List.map_congr_left fun m hm => by rw [pth_left hm]; simp [al]
    have e2 : (lv (flat r)).map (fun m => al (pth (.inner a b l r) m)) = (lv (flat r)).map fun m => al (pth r m) :=
      List.map_congr_left fun m hm => by rw [pth_right (fun hc => hd2.2.2 m hc m hm rfl) hm]; simp [al]
    rw [e1, e2, sum_zero, sum_all r hd2.2.1]
theorem sum_bt : ∀ t : Tr, (lv (flat t)).Nodup → ((lv (flat t)).map fun m => bt (pth t m)).sum + 1 = (flat t).length
  | .leaf a b, _ => by
    rw [lv_leaf]; simp [pth, off, bt, flat]
  | .inner a b l r, hd => by
    rw [lv_inner] at hd
    have hd2 := List.nodup_append.1 hd
    rw [lv_inner, List.map_append, List.sum_append]
    have e1 : (lv (flat l)).map (fun m => bt (pth (.inner a b l r) m)) = (lv (flat l)).map fun m => bt (pth l m) + al (pth l m) :=
      List.map_congr_left fun m hm => by rw [pth_left hm]; rfl
    have e2 : (lv (flat r)).map (fun m => bt (pth (.inner a b l r) m)) = (lv (flat r)).map fun m => bt (pth r m) + al (pth r m) :=
      List.map_congr_left fun m hm => by rw [pth_right (fun hc => hd2.2.2 m hc m hm rfl) hm]; rfl
    rw [e1, e2, sum_two, sum_two, sum_all l hd2.1, sum_all r hd2.2.1, sum_bt l hd2.1, sum_bt r hd2.2.1]
    simp [flat]
    try omega

/-- The way up, by the way down. -/
theorem ups_range (p : List Bool) : ups p.length (idx p) = (List.range (p.length + 1)).map fun j => labOf (p.take (p.length - j)) := by
  refine List.ext_getElem (by simp [ups_length]) fun j h1 h2 => ?_
  have hj : j ≤ p.length := by rw [ups_length] at h1; omega
  rw [ups_get, List.getElem_map, List.getElem_range]
  have e : path (p.length - j) (idx p / 2 ^ j) = p.take (p.length - j) := by
    rw [path_ups, Nat.sub_add_cancel hj, path_idx]
  have hlt : idx p / 2 ^ j < 2 ^ (p.length - j) := by
    rw [Nat.div_lt_iff_lt_mul (Nat.two_pow_pos j), ← Nat.pow_add, Nat.sub_add_cancel hj]
    exact idx_lt p
  have e2 : idx (p.take (p.length - j)) = idx p / 2 ^ j := by rw [← e, idx_path _ _ hlt]
  simp [labOf, e2, Nat.min_eq_left (Nat.sub_le _ _)]
theorem spk_at {t : Tr} {m : Int × Int} {p : List Bool} (h : off t m = some p) (hd : (lv (flat t)).Nodup) (hp : p.length ≤ 60) {j : Nat} (hj : j ≤ p.length) :
    spk (some t) m (labOf (p.take (p.length - j))) = ((p.drop (p.length - j)).all id && decide (j < p.length)) ∧ (whoO (some t) (labOf (p.take (p.length - j))).1 (labOf (p.take (p.length - j))).2).2 = true := by
  obtain ⟨o, u, e1, e2⟩ := last_at t m p (p.length - j) h hd
  have hl : (p.take (p.length - j)).length = p.length - j := by simp
  have hi := idx_lt (p.take (p.length - j))
  have hw : whoO (some t) (labOf (p.take (p.length - j))).1 (labOf (p.take (p.length - j))).2 = (lastM u, true) := by
    show whoO (some t) (((p.take (p.length - j)).length : Nat) : Int) ((idx (p.take (p.length - j)) : Nat) : Int) = _
    rw [who_nat (some t) (by omega) hi, path_idx]
    simp [subO, e1]
  refine ⟨?_, by rw [hw]⟩
  unfold spk
  rw [hw]
  congr 1
  · rw [Bool.eq_iff_iff, decide_eq_true_eq]; exact e2
  · show decide (0 < (((p.take (p.length - j)).length : Nat) : Int)) = _
    rw [hl, Bool.eq_iff_iff, decide_eq_true_eq, decide_eq_true_eq]
    omega
theorem bt_count (p : List Bool) : ((List.range (p.length + 1)).filter fun j => (p.drop (p.length - j)).all id && decide (j < p.length)).length = bt p := by
  induction p with
  | nil => simp [bt, List.range_succ]
  | cons b q ih =>
    rw [List.range_succ, List.filter_append, List.length_append]
    have e0 : ([q.length + 1].filter fun j => ((b :: q).drop ((b :: q).length - j)).all id && decide (j < (b :: q).length)) = [] := by simp
    have e1 : (List.range (q.length + 1)).filter (fun j => ((b :: q).drop ((b :: q).length - j)).all id && decide (j < (b :: q).length)) = (List.range (q.length + 1)).filter fun j => (q.drop (q.length - j)).all id := by
      refine List.filter_congr fun j hj => ?_
      have hj := List.mem_range.1 hj
      have e : (b :: q).length - j = (q.length - j) + 1 := by simp; omega
      rw [e, List.drop_succ_cons]
      simp
      omega
    show ((List.range (q.length + 1)).filter _).length + ([q.length + 1].filter _).length = _
    rw [e0, e1]
    rw [List.range_succ, List.filter_append, List.length_append] at ih ⊢
    have e2 : ([q.length].filter fun j => (q.drop (q.length - j)).all id && decide (j < q.length)) = [] := by simp
    have e3 : (List.range q.length).filter (fun j => (q.drop (q.length - j)).all id && decide (j < q.length)) = (List.range q.length).filter fun j => (q.drop (q.length - j)).all id :=
      List.filter_congr fun j hj => by simp [List.mem_range.1 hj]
    rw [e2, e3] at ih
    simp only [List.length_nil, Nat.add_zero] at ih ⊢
    rw [ih]
    show _ = bt q + (if q.all id = true then 1 else 0)
    congr 1
    by_cases hq : q.all id = true
    · rw [if_pos hq]; simp at hq; simp [hq]
    · rw [if_neg hq]
      simp only [Nat.sub_self, List.drop_zero, Bool.not_eq_true, List.filter_cons, List.filter_nil] at hq ⊢
      rw [hq]; rfl
theorem speaks_filter {t : Tr} {m : Int × Int} {p : List Bool} (h : off t m = some p) (hd : (lv (flat t)).Nodup) (hp : p.length ≤ 60) :
    speaksO (some t) m = ((List.range (p.length + 1)).filter fun j => (p.drop (p.length - j)).all id && decide (j < p.length)).map fun j => labOf (p.take (p.length - j)) := by
  have e : wayO (some t) m = ups p.length (idx p) := by simp [wayO, offO, h]
  unfold speaksO
  rw [e, ups_range, List.filter_map]
  congr 1
  refine List.filter_congr fun j hj => ?_
  exact (spk_at h hd hp (by have := List.mem_range.1 hj; omega)).1
theorem speaks_len {t : Tr} {m : Int × Int} {p : List Bool} (h : off t m = some p) (hd : (lv (flat t)).Nodup) (hp : p.length ≤ 60) : (speaksO (some t) m).length = bt p := by
  rw [speaks_filter h hd hp, List.length_map, bt_count]

end Go.Proofs.Ytlmkgkfildgkgaa
