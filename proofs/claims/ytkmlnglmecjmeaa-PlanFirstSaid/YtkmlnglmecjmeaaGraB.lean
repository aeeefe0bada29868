/- Several texts in one: each part says what it proves, and under which conditions. -/
import Derived.Test.YtkmlnglmecjmeaaPruN
import Derived.Test.YtkmlnglmecjmeaaJoinS
import Derived.Test.YtkmlnglmecjmeaaLabA
import Derived.Test.YtkmlnglmecjmeaaLens
import Derived.Test.YtkmlnglmecjmeaaMemA
import Derived.Test.YtkmlnglmecjmeaaPhaseA
import Derived.Test.YtkmlnglmecjmeaaBoxM
import Derived.Test.YtkmlnglmecjmeaaHdS

/- Trees put into trees: where, and what comes of it, plainly. Of no program. No condition but those named. -/
namespace Go.Proofs.Ytkmlnglmecjmeaa
open Go.RowKit
set_option linter.unusedVariables false

/-- A tree put to the right of what is at the end of a way. -/
def put : Tr → List Bool → Tr → Tr
  | t, [], m => .inner 0 0 t m
  | .leaf a b, _ :: _, _ => .leaf a b
  | .inner a b l r, false :: p, m => .inner a b (put l p m) r
  | .inner a b l r, true :: p, m => .inner a b l (put r p m)
theorem put_nil (t m : Tr) : put t [] m = .inner 0 0 t m := by cases t <;> rfl
theorem put_none : ∀ (t : Tr) (p : List Bool) (m : Tr), sub t p = none → put t p m = t
  | t, [], m, h => by rw [sub_nil] at h; cases h
  | .leaf a b, _ :: _, m, h => rfl
  | .inner a b l r, false :: p, m, h => by
    simp only [sub, Option.map_eq_none_iff] at h
    simp only [put, put_none l p m h]
  | .inner a b l r, true :: p, m, h => by
    simp only [sub, Option.map_eq_none_iff] at h
    simp only [put, put_none r p m h]
/-- How it reads. -/
theorem put_flat : ∀ (t : Tr) (p : List Bool) (m : Tr) (o : Nat) (u : Tr), sub t p = some (o, u) → flat (put t p m) = (flat t).take o ++ ((false, 0, 0) :: (flat u ++ flat m)) ++ (flat t).drop (o + (flat u).length)
  | t, [], m, o, u, h => by
    rw [sub_nil] at h
    simp only [Option.some.injEq, Prod.mk.injEq] at h
    obtain ⟨rfl, rfl⟩ := h
    simp [put_nil, flat]
  | .leaf _ _, _ :: _, m, o, u, h => by cases h
  | .inner a b l r, false :: p, m, o, u, h => by
    simp only [sub, Option.map_eq_some_iff, Prod.mk.injEq] at h
    obtain ⟨⟨o', u'⟩, h1, rfl, rfl⟩ := h
    have hle := sub_le h1
    have e1 : flat (.inner a b l r) = (false, a, b) :: (flat l ++ flat r) := rfl
    have e2 : o' + 1 + (flat u').length = (o' + (flat u').length) + 1 := by omega
    simp only [put, flat, put_flat l p m o' u' h1]
    rw [List.take_succ_cons, e2, List.drop_succ_cons, List.take_append_of_le_length (by omega), List.drop_append_of_le_length hle]
    simp
  | .inner a b l r, true :: p, m, o, u, h => by
    simp only [sub, Option.map_eq_some_iff, Prod.mk.injEq] at h
    obtain ⟨⟨o', u'⟩, h1, rfl, rfl⟩ := h
    have hle := sub_le h1
    have e2 : o' + 1 + (flat l).length + (flat u').length = (flat l).length + (o' + (flat u').length) + 1 := by omega
    have e3 : o' + 1 + (flat l).length = (flat l).length + o' + 1 := by omega
    simp only [put, flat, put_flat r p m o' u' h1]
    rw [e2, e3, List.take_succ_cons, List.drop_succ_cons, List.take_length_add_append, List.drop_length_add_append]
    simp
theorem put_len {t : Tr} {p : List Bool} {o : Nat} {u : Tr} (h : sub t p = some (o, u)) (m : Tr) : (flat (put t p m)).length = (flat t).length + (flat m).length + 1 := by
  have hle := sub_le h
  rw [put_flat t p m o u h]
  simp only [List.length_append, List.length_cons, List.length_take, List.length_drop]
  omega
theorem put_lv {t : Tr} {p : List Bool} {o : Nat} {u : Tr} (h : sub t p = some (o, u)) (m : Tr) : ∃ a b, lv (flat t) = a ++ b ∧ a ≠ [] ∧ lv (flat (put t p m)) = a ++ (lv (flat m) ++ b) := by
  obtain ⟨x, r, e, rfl⟩ := sub_drop t p o u h
  refine ⟨lv x ++ lv (flat u), lv r, ?_, ?_, ?_⟩
  · rw [e, lv_append, lv_append, List.append_assoc]
  · have := flat_counts u
    intro hn
    have h0 := List.append_eq_nil_iff.1 hn
    rw [h0.2] at this
    simp at this
  · rw [put_flat t p m _ u h, e, List.take_left]
    have e2 : (x ++ (flat u ++ r)).drop (x.length + (flat u).length) = r := by
      rw [← List.append_assoc, show x.length + (flat u).length = (x ++ flat u).length by simp, List.drop_left]
    rw [e2]
    have e3 : lv ((false, 0, 0) :: (flat u ++ flat m)) = lv (flat u) ++ lv (flat m) := by
      rw [← lv_append]; rfl
    rw [lv_append, lv_append, e3]
    simp [List.append_assoc]
theorem put_ht : ∀ (t : Tr) (p : List Bool) (m : Tr) (o : Nat) (u : Tr), sub t p = some (o, u) → ht (put t p m) = max (ht t) ((p.length : Int) + 1 + max (ht u) (ht m))
  | t, [], m, o, u, h => by
    rw [sub_nil] at h
    simp only [Option.some.injEq, Prod.mk.injEq] at h
    obtain ⟨rfl, rfl⟩ := h
    rw [put_nil]
    simp only [ht, List.length_nil]
    omega
  | .leaf _ _, _ :: _, m, o, u, h => by cases h
  | .inner a b l r, false :: p, m, o, u, h => by
    simp only [sub, Option.map_eq_some_iff, Prod.mk.injEq] at h
    obtain ⟨⟨o', u'⟩, h1, rfl, rfl⟩ := h
    simp only [put, ht, put_ht l p m o' u' h1, List.length_cons]
    omega
  | .inner a b l r, true :: p, m, o, u, h => by
    simp only [sub, Option.map_eq_some_iff, Prod.mk.injEq] at h
    obtain ⟨⟨o', u'⟩, h1, rfl, rfl⟩ := h
    simp only [put, ht, put_ht r p m o' u' h1, List.length_cons]
    omega
theorem put_sub : ∀ (t : Tr) (p : List Bool) (m : Tr) (o : Nat) (u : Tr), sub t p = some (o, u) → sub (put t p m) p = some (o, .inner 0 0 u m)
  | t, [], m, o, u, h => by
    rw [sub_nil] at h
    simp only [Option.some.injEq, Prod.mk.injEq] at h
    obtain ⟨rfl, rfl⟩ := h
    rw [put_nil, sub_nil]
  | .leaf _ _, _ :: _, m, o, u, h => by cases h
  | .inner a b l r, false :: p, m, o, u, h => by
    simp only [sub, Option.map_eq_some_iff, Prod.mk.injEq] at h
    obtain ⟨⟨o', u'⟩, h1, rfl, rfl⟩ := h
    simp [put, sub, put_sub l p m o' u' h1]
  | .inner a b l r, true :: p, m, o, u, h => by
    simp only [sub, Option.map_eq_some_iff, Prod.mk.injEq] at h
    obtain ⟨⟨o', u'⟩, h1, rfl, rfl⟩ := h
    simp [put, sub, put_sub r p m o' u' h1]
theorem put_noWho {t m : Tr} (p : List Bool) (ht : (flat t).all noWho = true) (hm : (flat m).all noWho = true) : (flat (put t p m)).all noWho = true := by
  cases hs : sub t p with
  | none => rw [put_none t p m hs]; exact ht
  | some x =>
    obtain ⟨o, u⟩ := x
    obtain ⟨a, r, e, rfl⟩ := sub_drop t p o u hs
    rw [put_flat t p m _ u hs, e, List.take_left]
    have e2 : (a ++ (flat u ++ r)).drop (a.length + (flat u).length) = r := by
      rw [← List.append_assoc, show a.length + (flat u).length = (a ++ flat u).length by simp, List.drop_left]
    rw [e2]
    rw [e] at ht
    simp only [List.all_append, List.all_cons, Bool.and_eq_true] at ht ⊢
    exact ⟨⟨ht.1, ⟨rfl, ht.2.1, hm⟩⟩, ht.2.2⟩
/-- What is kept, where none of what came is. -/
theorem keep_put_old {K : List (Int × Int)} : ∀ (t : Tr) (p : List Bool) (m : Tr), keepT K m = none → keepT K (put t p m) = keepT K t
  | t, [], m, h => by
    rw [put_nil]
    show joinO (keepT K t) (keepT K m) = _
    rw [h, joinO_none]
  | .leaf _ _, _ :: _, m, h => rfl
  | .inner a b l r, false :: p, m, h => by
    show joinO (keepT K (put l p m)) (keepT K r) = joinO _ _
    rw [keep_put_old l p m h]
  | .inner a b l r, true :: p, m, h => by
    show joinO (keepT K l) (keepT K (put r p m)) = joinO _ _
    rw [keep_put_old r p m h]
/-- What is kept, where none of what was is. -/
theorem keep_put_new {K : List (Int × Int)} : ∀ (t : Tr) (p : List Bool) (m : Tr) (o : Nat) (u : Tr), sub t p = some (o, u) → (∀ x ∈ lv (flat t), x ∉ K) → keepT K (put t p m) = keepT K m
  | t, [], m, o, u, h, hn => by
    rw [put_nil]
    show joinO (keepT K t) (keepT K m) = _
    have e : keepT K t = none := keep_none (ot := some t) hn
    rw [e]
    rfl
  | .leaf _ _, _ :: _, m, o, u, h, hn => by cases h
  | .inner a b l r, false :: p, m, o, u, h, hn => by
    simp only [sub, Option.map_eq_some_iff, Prod.mk.injEq] at h
    obtain ⟨⟨o', u'⟩, h1, rfl, rfl⟩ := h
    have hl : lv (flat (.inner a b l r)) = lv (flat l) ++ lv (flat r) := by rw [← lv_append]; rfl
    rw [hl] at hn
    show joinO (keepT K (put l p m)) (keepT K r) = _
    have e : keepT K r = none := keep_none (ot := some r) fun x hx => hn x (List.mem_append_right _ hx)
    rw [keep_put_new l p m o' u' h1 fun x hx => hn x (List.mem_append_left _ hx), e, joinO_none]
  | .inner a b l r, true :: p, m, o, u, h, hn => by
    simp only [sub, Option.map_eq_some_iff, Prod.mk.injEq] at h
    obtain ⟨⟨o', u'⟩, h1, rfl, rfl⟩ := h
    have hl : lv (flat (.inner a b l r)) = lv (flat l) ++ lv (flat r) := by rw [← lv_append]; rfl
    rw [hl] at hn
    show joinO (keepT K l) (keepT K (put r p m)) = _
    have e : keepT K l = none := keep_none (ot := some l) fun x hx => hn x (List.mem_append_left _ hx)
    rw [keep_put_new r p m o' u' h1 fun x hx => hn x (List.mem_append_right _ hx), e]
    rfl

/-- Put at a label; of nothing, and at no place, and of nothing that comes, what was. -/
def putO (x : Option Tr) (L I : Int) (y : Option Tr) : Option Tr := match x, y with
  | some t, some m => if okL L I then some (put t (path L.toNat I.toNat) m) else some t
  | x, _ => x
/-- The greatest below n for which it holds. -/
def scanI (f : Nat → Bool) : Nat → Option Nat
  | 0 => none
  | n + 1 => if f n then some n else scanI f n
/-- Level by level. -/
def scanL (g : Nat → Option Nat) : Nat → Nat → Option (Nat × Nat)
  | _, 0 => none
  | k, n + 1 => match g k with
    | some i => some (k, i)
    | none => scanL g (k + 1) n
theorem scanI_some {f : Nat → Bool} : ∀ {n i : Nat}, scanI f n = some i → i < n ∧ f i = true
  | 0, i, h => by cases h
  | n + 1, i, h => by
    simp only [scanI] at h
    by_cases hf : f n = true
    · rw [if_pos hf] at h
      simp only [Option.some.injEq] at h
      subst h
      exact ⟨by omega, hf⟩
    · rw [if_neg hf] at h
      have := scanI_some h
      exact ⟨by omega, this.2⟩
theorem scanL_some {g : Nat → Option Nat} : ∀ {n k k' i : Nat}, scanL g k n = some (k', i) → k ≤ k' ∧ k' < k + n ∧ g k' = some i
  | 0, k, k', i, h => by cases h
  | n + 1, k, k', i, h => by
    simp only [scanL] at h
    cases hg : g k with
    | some j =>
      rw [hg] at h
      simp only [Option.some.injEq, Prod.mk.injEq] at h
      obtain ⟨rfl, rfl⟩ := h
      exact ⟨Nat.le_refl _, by omega, hg⟩
    | none =>
      rw [hg] at h
      have := scanL_some h
      exact ⟨by omega, by omega, this.2.2⟩
/-- Does one so high fit in beside what is at a label? -/
def fitsL (t : Tr) (h : Int) (k i : Nat) : Bool := match sub t (path k i) with
  | some x => decide ((k : Int) + 1 + max (ht x.2) h ≤ ht t)
  | none => false
/-- Where one so high is put; the root's label, if nowhere. -/
def placeF (t : Tr) (h : Int) : Option (Nat × Nat) := scanL (fun k => scanI (fitsL t h k) (2 ^ min k 40)) 0 ((ht t).toNat + 1)
def placeO (x : Option Tr) (h : Int) : Int × Int := match x with
  | none => (0, 0)
  | some t => match placeF t h with
    | some q => ((q.1 : Int), (q.2 : Int))
    | none => (0, 0)
def graftO (x y : Option Tr) : Option Tr := match x with
  | none => y
  | some t => putO (some t) (placeO (some t) (htO y)).1 (placeO (some t) (htO y)).2 y
theorem placeF_some {t : Tr} {h : Int} {k i : Nat} (hp : placeF t h = some (k, i)) : (k : Int) ≤ ht t ∧ i < 2 ^ k ∧ fitsL t h k i = true := by
  have h1 := scanL_some hp
  have h2 := scanI_some h1.2.2
  have h3 := ht_nonneg t
  refine ⟨by omega, Nat.lt_of_lt_of_le h2.1 (Nat.pow_le_pow_right (by omega) (Nat.min_le_left _ _)), h2.2⟩
/-- A place there is isn't the root's. -/
theorem placeF_root {t : Tr} {h : Int} {k i : Nat} (hp : placeF t h = some (k, i)) : 0 < k := by
  have h1 := (placeF_some hp).2.2
  rcases Nat.eq_zero_or_pos k with rfl | hk
  · simp only [fitsL, path, sub_nil, decide_eq_true_eq] at h1
    have := ht_nonneg t
    omega
  · exact hk
/-- What a graft comes to: a way, that there is, and what is higher. -/
theorem graft_some (t m : Tr) (hh : ht t ≤ 60) : ∃ (p : List Bool) (o : Nat) (u : Tr), sub t p = some (o, u) ∧ graftO (some t) (some m) = some (put t p m) ∧
    ((placeO (some t) (ht m) = (0, 0) ∧ p = []) ∨ ((placeO (some t) (ht m)).1 ≠ 0 ∧ ht (put t p m) = ht t)) := by
  cases hp : placeF t (ht m) with
  | none =>
    have e : placeO (some t) (ht m) = (0, 0) := by simp only [placeO, hp]
    refine ⟨[], 0, t, sub_nil t, ?_, Or.inl ⟨e, rfl⟩⟩
    show putO (some t) (placeO (some t) (ht m)).1 (placeO (some t) (ht m)).2 (some m) = _
    rw [e]
    simp [putO, okL, path]
  | some q =>
    obtain ⟨k, i⟩ := q
    obtain ⟨h1, h2, h3⟩ := placeF_some hp
    have h4 := placeF_root hp
    have e : placeO (some t) (ht m) = ((k : Int), (i : Int)) := by simp only [placeO, hp]
    simp only [fitsL] at h3
    cases hs : sub t (path k i) with
    | none => rw [hs] at h3; cases h3
    | some x =>
      obtain ⟨o, u⟩ := x
      rw [hs] at h3
      simp only [decide_eq_true_eq] at h3
      refine ⟨path k i, o, u, hs, ?_, Or.inr ⟨?_, ?_⟩⟩
      · show putO (some t) (placeO (some t) (ht m)).1 (placeO (some t) (ht m)).2 (some m) = _
        rw [e]
        simp only [putO, Int.toNat_natCast]
        rw [okL_nat (by omega) h2, if_pos rfl]
      · rw [e]
        show (k : Int) ≠ 0
        omega
      · rw [put_ht t _ m o u hs, path_length]
        omega

end Go.Proofs.Ytkmlnglmecjmeaa


/- The document's Place, Put and Graft of layer 12. Condition: the slices read as trees' spots, or nothing's, of at most 100,000, at most 60 high. -/
namespace Go.Proofs.Ytkmlnglmecjmeaa
open Go Go.RowKit
set_option linter.unusedVariables false

theorem putO_at (x : Option Tr) (L I : Int) (y : Option Tr) (o : Nat) (u : Tr) (ha : atO x L I = (o : Int)) (hp : partO x L I = flat u) :
    spo (putO x L I y) = (spo x).take o ++ joinS (flat u) (spo y) ++ (spo x).drop (o + (flat u).length) := by
  unfold atO at ha
  unfold partO at hp
  by_cases ho : okL L I = true
  · rw [if_pos ho] at ha hp
    cases x with
    | none => simp only [subO] at ha; omega
    | some t =>
      cases hs : sub t (path L.toNat I.toNat) with
      | none => simp only [subO, hs] at ha; omega
      | some q =>
        obtain ⟨o', u'⟩ := q
        simp only [subO, hs] at ha hp
        obtain rfl : o' = o := by omega
        have hpt := sub_part hs
        have hle := sub_le hs
        cases y with
        | none =>
          have e : putO (some t) L I none = some t := rfl
          rw [e]
          have ej : joinS (flat u) (spo none) = flat u := by
            unfold joinS
            rw [if_neg (flat_ne u), if_pos (show spo none = [] from rfl)]
          rw [ej, ← hp]
          have h1 := hpt.1
          show flat t = (flat t).take o' ++ flat u' ++ (flat t).drop (o' + (flat u').length)
          rw [← h1]
          conv => lhs; rw [← List.take_append_drop o' (flat t), ← List.take_append_drop (flat u').length ((flat t).drop o'), List.drop_drop]
          rw [h1, List.append_assoc]
        | some m =>
          have e : putO (some t) L I (some m) = some (put t (path L.toNat I.toNat) m) := by simp only [putO]; rw [if_pos ho]
          rw [e]
          have ej : joinS (flat u) (spo (some m)) = (false, 0, 0) :: (flat u ++ flat m) := by
            unfold joinS
            rw [if_neg (flat_ne u), if_neg (show ¬ spo (some m) = [] from flat_ne m)]; rfl
          rw [ej, ← hp]
          exact put_flat t _ m o' u' hs
  · rw [if_neg ho] at ha; omega
theorem putO_no (x : Option Tr) (L I : Int) (y : Option Tr) (ha : atO x L I = -1) : putO x L I y = x := by
  unfold atO at ha
  cases x with
  | none => cases y <;> rfl
  | some t =>
    cases y with
    | none => rfl
    | some m =>
      simp only [putO]
      by_cases ho : okL L I = true
      · rw [if_pos ho] at ha ⊢
        cases hs : sub t (path L.toNat I.toNat) with
        | none => rw [put_none t _ m hs]
        | some q =>
          simp only [subO, hs] at ha
          omega
      · rw [if_neg ho]
theorem putO_len (x : Option Tr) (L I : Int) (y : Option Tr) : (spo (putO x L I y)).length ≤ (spo x).length + (spo y).length + 1 := by
  rcases at_part x L I with ⟨ha, -⟩ | ⟨o, u, ha, hp, hle, -, -⟩
  · rw [putO_no x L I y ha]; omega
  · rw [putO_at x L I y o u ha hp]
    have := joinS_len (flat u) (spo y)
    simp only [List.length_append, List.length_take, List.length_drop]
    omega


theorem min_forty (k : Nat) : min (k : Int) 40 = ((min k 40 : Nat) : Int) := by omega
theorem scanL_step {g : Nat → Option Nat} {k n : Nat} (h : g k = none) : scanL g k (n + 1) = scanL g (k + 1) n := by simp only [scanL, h]
theorem scanL_here {g : Nat → Option Nat} {k n i : Nat} (h : g k = some i) : scanL g k (n + 1) = some (k, i) := by simp only [scanL, h]
theorem scanI_step {f : Nat → Bool} {n : Nat} (h : f n = false) : scanI f (n + 1) = scanI f n := by simp only [scanI, h]; rfl
theorem scanI_here {f : Nat → Bool} {n : Nat} (h : f n = true) : scanI f (n + 1) = some n := by simp only [scanI, h]; rfl
theorem partO_fits (t : Tr) (h : Int) {k j : Nat} (h1 : k ≤ 60) (h2 : j < 2 ^ k) : (partO (some t) (k : Int) (j : Int) = [] ∧ fitsL t h k j = false) ∨ ∃ u, partO (some t) (k : Int) (j : Int) = spo (some u) ∧ ht u ≤ ht t ∧ fitsL t h k j = decide ((k : Int) + 1 + max (ht u) h ≤ ht t) := by
  rw [partO_nat (some t) h1 h2]
  cases hs : sub t (path k j) with
  | none => left; simp [subO, fitsL, hs]
  | some x =>
    obtain ⟨o, u⟩ := x
    have := sub_high t _ o u hs
    right
    refine ⟨u, by simp [subO, hs, spo], by omega, by simp [fitsL, hs]⟩


end Go.Proofs.Ytkmlnglmecjmeaa


/- The document's Graft; which of two trees is ahead. Condition: the slices read as trees' spots, or nothing's, of at most 100,000, at most 30 high. -/
namespace Go.Proofs.Ytkmlnglmecjmeaa
open Go Go.RowKit
set_option linter.unusedVariables false

theorem htO_low (x : Option Tr) : -1 ≤ htO x := by
  cases x with
  | none => exact Int.le_refl _
  | some t => have := ht_nonneg t; show -1 ≤ ht t; omega

/-- The least of members. -/
def firstM : List (Int × Int) → Int × Int
  | [] => (0, 0)
  | x :: xs => xs.foldl (fun out y => if lessM y.1 y.2 out.1 out.2 then y else out) x
theorem firstM_snoc (m : List (Int × Int)) (y : Int × Int) : firstM (m ++ [y]) = if m = [] then y else if lessM y.1 y.2 (firstM m).1 (firstM m).2 then y else firstM m := by
  cases m with
  | nil => rfl
  | cons x xs =>
    simp [firstM]
    rfl
/-- Is a tree ahead of another one? -/
def aheadO (x y : Option Tr) : Bool := decide ((lvO y).length < (lvO x).length) || (decide ((lvO x).length = (lvO y).length) && lessM (firstM (lvO x)).1 (firstM (lvO x)).2 (firstM (lvO y)).1 (firstM (lvO y)).2)

end Go.Proofs.Ytkmlnglmecjmeaa


/- Which of two trees is ahead, by the document; slices of trees. Condition: the slices read as trees' spots, or nothing's, of at most 100,000. -/
namespace Go.Proofs.Ytkmlnglmecjmeaa
open Go Go.RowKit
set_option linter.unusedVariables false


/-- A slice of slices of spots, of any parameter. -/
theorem opens_lists : Opens Try.prog 49 Lists := opens_slice Try.underlying49 (by kernel_rfl) (by decide) opens_spots
/-- Heads of slices, as cells. -/
abbrev hC (h : Hd) : List Value := [.slice h.1 h.2.1 h.2.2]
def IsH : Rd Hd := fun _ _ h cs => cs = hC h
theorem keeps_H : Keeps IsH := fun _ _ _ _ _ _ h _ _ => h
abbrev Heads : Rd (List Hd) := SliceOf 1 IsH
theorem keeps_heads : Keeps Heads := keeps_slice keeps_H
/-- Heads that each read as a tree's spots, or nothing's. -/
def Each (n : Nat) (w : World) (hs : List Hd) (xs : List (Option Tr)) : Prop := hs.length = xs.length ∧ ∀ (i : Nat) (h : Hd) (x : Option Tr), hs[i]? = some h → xs[i]? = some x → Spots n w (spo x) [.slice h.1 h.2.1 h.2.2]
theorem Each.keep {n m : Nat} {w w' : World} {hs : List Hd} {xs : List (Option Tr)} (h : Each n w hs xs) (hb : Below n w w') (hm : n ≤ m) : Each m w' hs xs :=
  ⟨h.1, fun i a x h1 h2 => keeps_spots _ _ _ _ _ _ (h.2 i a x h1 h2) hb hm⟩
theorem Each.nil (n : Nat) (w : World) : Each n w [] [] := ⟨rfl, fun i a x h1 _ => by simp at h1⟩
theorem Each.append {n : Nat} {w : World} {hs hs' : List Hd} {xs xs' : List (Option Tr)} (h : Each n w hs xs) (h' : Each n w hs' xs') : Each n w (hs ++ hs') (xs ++ xs') := by
  refine ⟨by simp [h.1, h'.1], fun i a x h1 h2 => ?_⟩
  by_cases hi : i < hs.length
  · rw [List.getElem?_append_left hi] at h1
    rw [List.getElem?_append_left (by rw [← h.1]; exact hi)] at h2
    exact h.2 i a x h1 h2
  · rw [List.getElem?_append_right (by omega)] at h1
    rw [List.getElem?_append_right (by rw [← h.1]; omega), ← h.1] at h2
    exact h'.2 _ a x h1 h2
theorem Each.take {n : Nat} {w : World} {hs : List Hd} {xs : List (Option Tr)} (h : Each n w hs xs) (k : Nat) : Each n w (hs.take k) (xs.take k) := by
  refine ⟨by simp [h.1], fun i a x h1 h2 => ?_⟩
  rw [List.getElem?_take] at h1 h2
  by_cases hi : i < k
  · rw [if_pos hi] at h1 h2
    exact h.2 i a x h1 h2
  · rw [if_neg hi] at h1; cases h1
theorem Each.drop {n : Nat} {w : World} {hs : List Hd} {xs : List (Option Tr)} (h : Each n w hs xs) (k : Nat) : Each n w (hs.drop k) (xs.drop k) := by
  refine ⟨by simp [h.1], fun i a x h1 h2 => ?_⟩
  rw [List.getElem?_drop] at h1 h2
  exact h.2 _ a x h1 h2
theorem Each.one {n : Nat} {w : World} {h : Hd} {x : Option Tr} (hx : Spots n w (spo x) [.slice h.1 h.2.1 h.2.2]) : Each n w [h] [x] := by
  refine ⟨rfl, fun i a y h1 h2 => ?_⟩
  cases i with
  | zero =>
    simp at h1 h2
    subst h1 h2
    exact hx
  | succ i => simp at h1
theorem oneH (h : Hd) : ∀ u ∈ hC h, u.oneCell' = true := by
  intro u hu
  simp at hu
  subst hu
  rfl
abbrev infoHt : Prop := (Try.prog.info? 32).map (fun i => (i.zero, i.size, i.bytes)) = some (some (.slice none 0 0), 1, 24)
theorem infoH : infoHt := by unfold infoHt; kernel_rfl
/-- append onto heads of one's own. -/
theorem append_heads {ops : Array Oper} {rest : List Oper} {o : Oper} {a : Act} {Q : Exit → Act → World → Prop} (w : World) (hw : Region.wanted o (yielded ops a.tmps) = true) (so x : Operand)
    (ho : o.op = .call { callee := .builtin .append, args := #[so, x], argTypes := #[49, 49] })
    (base : Nat) (v : Value) (n : Nat) (ys : List Value) (hv : a.eval so = v) (hown : w.ownsRow base 32 1 v n ys)
    (n₀ : Nat) (V : Value) (xs : List Hd) (hx : a.eval x = V) (hL : Heads n₀ w xs [V]) (hb : n + xs.length ≤ 4000000) (hbase : base ≤ w.heap.size)
    (h : ∀ v' w', w'.ownsRow base 32 1 v' (n + xs.length) (ys ++ xs.flatMap hC) → w.grownBy w' v.ownBlock → wpList Try.prog ops Q rest (a.put o.dst v') w') : wpList Try.prog ops Q (o :: rest) a w :=
  append_slice (enc := hC) (s := 1) (R := IsH) (fun _ _ _ _ h => h) (by decide) (fun _ => rfl) oneH Try.underlying49 infoH rfl w hw so x ho base v n ys hv hown n₀ V xs hx hL (Nat.le_trans hb (by decide)) (by omega) hbase h
theorem own_heads {w : World} {base : Nat} {v : Value} {xs : List Hd} (h : w.ownsRow base 32 1 v xs.length (xs.flatMap hC)) : Heads w.heap.size w xs [v] := own_reads (enc := hC) (s := 1) (R := IsH) (fun _ _ _ => rfl) (by decide) (fun _ => rfl) h
theorem heads_at {n : Nat} {w : World} {hs : List Hd} {v : Value} (h : Heads n w hs [v]) :
    ∃ A cap, v = .slice A hs.length cap ∧ hs.length ≤ cap ∧ cap ≤ maxLen ∧ ∀ i, (hi : i < hs.length) → ∃ b off, A = some ⟨b, off, none⟩ ∧ b < n ∧ w.cell? ⟨b, off + i, none⟩ = some (.slice hs[i].1 hs[i].2.1 hs[i].2.2) := by
  obtain ⟨A, cap, e, h1, h2, _, h3⟩ := h
  simp only [List.cons.injEq, and_true] at e
  refine ⟨A, cap, e, h1, h2, fun i hi => ?_⟩
  obtain ⟨b, off, rfl, hb, hc⟩ := h3 (by omega)
  obtain ⟨es, hl, hcell, hr⟩ := hc i hi
  have hr : es = _ := hr
  subst hr
  refine ⟨b, off, rfl, hb, ?_⟩
  have := hcell 0 (by omega)
  simpa using this
theorem one_head (w : World) (h : Hd) (t : TypeId) (g : Nat) (hg : w.heap.size = g) : Heads (g + 1) (w.alloc (.cells #[.slice h.1 h.2.1 h.2.2] t)) [h] [.slice (some ⟨g, 0, none⟩) 1 1] := by
  subst hg
  exact ⟨some ⟨w.heap.size, 0, none⟩, 1, rfl, Nat.le_refl _, by decide, (fun h => by cases h), fun _ => ⟨w.heap.size, 0, rfl, by omega, fun i hi => ⟨hC h, rfl, fun j hj => by
    have : i = 0 := by simpa using hi
    subst this
    have : j = 0 := by omega
    subst this
    simp, by
    have : i = 0 := by simpa using hi
    subst this
    rfl⟩⟩⟩
/-- A slice of trees: its heads, and what each reads as. -/
theorem heads_of_lists {n : Nat} {w : World} {xss : List (List Sp)} {v : Value} (h : Lists n w xss [v]) : ∃ hs : List Hd, Heads n w hs [v] ∧ hs.length = xss.length ∧ ∀ (i : Nat) (q : Hd) (l : List Sp), hs[i]? = some q → xss[i]? = some l → Spots n w l [.slice q.1 q.2.1 q.2.2] := by
  obtain ⟨A, cap, e, h1, h2, h0, h3⟩ := id h
  simp only [List.cons.injEq, and_true] at e
  subst e
  have each : ∀ i, i < xss.length → ∃ q : Hd, (∃ b off, A = some ⟨b, off, none⟩ ∧ b < n ∧ w.cell? ⟨b, off + i, none⟩ = some (.slice q.1 q.2.1 q.2.2)) ∧ ∀ l, xss[i]? = some l → Spots n w l [.slice q.1 q.2.1 q.2.2] := fun i hi => by
    obtain ⟨A', cap', e', _, _, hp⟩ := lists_at h
    simp only [Value.slice.injEq] at e'
    obtain ⟨rfl, -, rfl⟩ := e'
    obtain ⟨b, off, u, rfl, hb, hc, hu⟩ := hp i hi
    obtain ⟨A2, c2, rfl, _, _, _⟩ := spots_at hu
    refine ⟨(A2, xss[i].length, c2), ⟨b, off, rfl, hb, hc⟩, fun l hl => ?_⟩
    have : xss[i] = l := by rw [List.getElem?_eq_getElem hi] at hl; simpa using hl
    subst this
    exact hu
  obtain ⟨hs, hlen, hR⟩ := list_of xss.length (fun i q => (∃ b off, A = some ⟨b, off, none⟩ ∧ b < n ∧ w.cell? ⟨b, off + i, none⟩ = some (.slice (q : Hd).1 q.2.1 q.2.2)) ∧ ∀ l, xss[i]? = some l → Spots n w l [.slice q.1 q.2.1 q.2.2]) each
  refine ⟨hs, ⟨A, cap, by rw [hlen], by omega, h2, h0, fun hp => ?_⟩, hlen, fun i q l hq hl => ?_⟩
  · obtain ⟨⟨b, off, rfl, hb, _⟩, _⟩ := hR 0 hp
    refine ⟨b, off, rfl, hb, fun i hi => ⟨hC hs[i], rfl, fun j hj => ?_, rfl⟩⟩
    have : j = 0 := by omega
    subst this
    obtain ⟨⟨b', off', e, hb', hc⟩, _⟩ := hR i hi
    simp only [Option.some.injEq, Addr.mk.injEq, and_true] at e
    obtain ⟨rfl, rfl⟩ := e
    simpa using hc
  · have hi : i < hs.length := by
      rcases Nat.lt_or_ge i hs.length with h' | h'
      · exact h'
      · rw [List.getElem?_eq_none h'] at hq; cases hq
    have : hs[i] = q := by rw [List.getElem?_eq_getElem hi] at hq; simpa using hq
    subst this
    exact (hR i hi).2 l hl

end Go.Proofs.Ytkmlnglmecjmeaa
