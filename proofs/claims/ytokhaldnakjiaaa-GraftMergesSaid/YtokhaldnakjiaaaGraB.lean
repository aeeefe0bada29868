/- Several texts in one: each part says what it proves, and under which conditions. -/
import Derived.Test.YtokhaldnakjiaaaPruN
import Derived.Test.YtokhaldnakjiaaaJoinS
import Derived.Test.YtokhaldnakjiaaaLabA
import Derived.Test.YtokhaldnakjiaaaLens
import Derived.Test.YtokhaldnakjiaaaMem
import Derived.Test.YtokhaldnakjiaaaPhaseA
import Derived.Test.YtokhaldnakjiaaaBoxM
/- Trees put into trees: where, and what comes of it, plainly. Of no program. No condition but those named. -/
namespace Go.Proofs.Ytokhaldnakjiaaa
open Go.RowKit
set_option linter.unusedVariables false

/-- A tree put to the right of what is at the end of a way. -/
def put : Tr → List Bool → Tr → Tr
  | t, [], m => .inner 0 0 t m
  | .leaf a b, _ :: _, _ => .leaf a b
  | .inner a b l r, false :: p, m => .inner a b (put l p m) r
  | .inner a b l r, true :: p, m => .inner a b l (put r p m)
theorem put_nil (t m : Tr) : put t [] m = .inner 0 0 t m := by cases t <;> rfl
theorem put_none : ∀ (t : Tr) (p : List Bool) (m : Tr), sub t p = none → put t p m = t
  | t, [], m, h => by rw [sub_nil] at h; cases h
  | .leaf a b, _ :: _, m, h => rfl
  | .inner a b l r, false :: p, m, h => by
    simp only [sub, Option.map_eq_none_iff] at h
    simp only [put, put_none l p m h]
  | .inner a b l r, true :: p, m, h => by
    simp only [sub, Option.map_eq_none_iff] at h
    simp only [put, put_none r p m h]
/-- How it reads. -/
theorem put_flat : ∀ (t : Tr) (p : List Bool) (m : Tr) (o : Nat) (u : Tr), sub t p = some (o, u) → flat (put t p m) = (flat t).take o ++ ((false, 0, 0) :: (flat u ++ flat m)) ++ (flat t).drop (o + (flat u).length)
  | t, [], m, o, u, h => by
    rw [sub_nil] at h
    simp only [Option.some.injEq, Prod.mk.injEq] at h
    obtain ⟨rfl, rfl⟩ := h
    simp [put_nil, flat]
  | .leaf _ _, _ :: _, m, o, u, h => by cases h
  | .inner a b l r, false :: p, m, o, u, h => by
    simp only [sub, Option.map_eq_some_iff, Prod.mk.injEq] at h
    obtain ⟨⟨o', u'⟩, h1, rfl, rfl⟩ := h
    have hle := sub_le h1
    have e1 : flat (.inner a b l r) = (false, a, b) :: (flat l ++ flat r) := rfl
    have e2 : o' + 1 + (flat u').length = (o' + (flat u').length) + 1 := by omega
    simp only [put, flat, put_flat l p m o' u' h1]
    rw [List.take_succ_cons, e2, List.drop_succ_cons, List.take_append_of_le_length (by omega), List.drop_append_of_le_length hle]
    simp
  | .inner a b l r, true :: p, m, o, u, h => by
    simp only [sub, Option.map_eq_some_iff, Prod.mk.injEq] at h
    obtain ⟨⟨o', u'⟩, h1, rfl, rfl⟩ := h
    have hle := sub_le h1
    have e2 : o' + 1 + (flat l).length + (flat u').length = (flat l).length + (o' + (flat u').length) + 1 := by omega
    have e3 : o' + 1 + (flat l).length = (flat l).length + o' + 1 := by omega
    simp only [put, flat, put_flat r p m o' u' h1]
    rw [e2, e3, List.take_succ_cons, List.drop_succ_cons, List.take_length_add_append, List.drop_length_add_append]
    simp
theorem put_len {t : Tr} {p : List Bool} {o : Nat} {u : Tr} (h : sub t p = some (o, u)) (m : Tr) : (flat (put t p m)).length = (flat t).length + (flat m).length + 1 := by
  have hle := sub_le h
  rw [put_flat t p m o u h]
  simp only [List.length_append, List.length_cons, List.length_take, List.length_drop]
  omega
theorem put_lv {t : Tr} {p : List Bool} {o : Nat} {u : Tr} (h : sub t p = some (o, u)) (m : Tr) : ∃ a b, lv (flat t) = a ++ b ∧ a ≠ [] ∧ lv (flat (put t p m)) = a ++ (lv (flat m) ++ b) := by
  obtain ⟨x, r, e, rfl⟩ := sub_drop t p o u h
  refine ⟨lv x ++ lv (flat u), lv r, ?_, ?_, ?_⟩
  · rw [e, lv_append, lv_append, List.append_assoc]
  · have := flat_counts u
    intro hn
    have h0 := List.append_eq_nil_iff.1 hn
    rw [h0.2] at this
    simp at this
  · rw [put_flat t p m _ u h, e, List.take_left]
    have e2 : (x ++ (flat u ++ r)).drop (x.length + (flat u).length) = r := by
      rw [← List.append_assoc, show x.length + (flat u).length = (x ++ flat u).length by simp, List.drop_left]
    rw [e2]
    have e3 : lv ((false, 0, 0) :: (flat u ++ flat m)) = lv (flat u) ++ lv (flat m) := by
      rw [← lv_append]; rfl
    rw [lv_append, lv_append, e3]
    simp [List.append_assoc]
theorem put_ht : ∀ (t : Tr) (p : List Bool) (m : Tr) (o : Nat) (u : Tr), sub t p = some (o, u) → ht (put t p m) = max (ht t) ((p.length : Int) + 1 + max (ht u) (ht m))
  | t, [], m, o, u, h => by
    rw [sub_nil] at h
    simp only [Option.some.injEq, Prod.mk.injEq] at h
    obtain ⟨rfl, rfl⟩ := h
    rw [put_nil]
    simp only [ht, List.length_nil]
    omega
  | .leaf _ _, _ :: _, m, o, u, h => by cases h
  | .inner a b l r, false :: p, m, o, u, h => by
    simp only [sub, Option.map_eq_some_iff, Prod.mk.injEq] at h
    obtain ⟨⟨o', u'⟩, h1, rfl, rfl⟩ := h
    simp only [put, ht, put_ht l p m o' u' h1, List.length_cons]
    omega
  | .inner a b l r, true :: p, m, o, u, h => by
    simp only [sub, Option.map_eq_some_iff, Prod.mk.injEq] at h
    obtain ⟨⟨o', u'⟩, h1, rfl, rfl⟩ := h
    simp only [put, ht, put_ht r p m o' u' h1, List.length_cons]
    omega
theorem put_sub : ∀ (t : Tr) (p : List Bool) (m : Tr) (o : Nat) (u : Tr), sub t p = some (o, u) → sub (put t p m) p = some (o, .inner 0 0 u m)
  | t, [], m, o, u, h => by
    rw [sub_nil] at h
    simp only [Option.some.injEq, Prod.mk.injEq] at h
    obtain ⟨rfl, rfl⟩ := h
    rw [put_nil, sub_nil]
  | .leaf _ _, _ :: _, m, o, u, h => by cases h
  | .inner a b l r, false :: p, m, o, u, h => by
    simp only [sub, Option.map_eq_some_iff, Prod.mk.injEq] at h
    obtain ⟨⟨o', u'⟩, h1, rfl, rfl⟩ := h
    simp [put, sub, put_sub l p m o' u' h1]
  | .inner a b l r, true :: p, m, o, u, h => by
    simp only [sub, Option.map_eq_some_iff, Prod.mk.injEq] at h
    obtain ⟨⟨o', u'⟩, h1, rfl, rfl⟩ := h
    simp [put, sub, put_sub r p m o' u' h1]
theorem put_noWho {t m : Tr} (p : List Bool) (ht : (flat t).all noWho = true) (hm : (flat m).all noWho = true) : (flat (put t p m)).all noWho = true := by
  cases hs : sub t p with
  | none => rw [put_none t p m hs]; exact ht
  | some x =>
    obtain ⟨o, u⟩ := x
    obtain ⟨a, r, e, rfl⟩ := sub_drop t p o u hs
    rw [put_flat t p m _ u hs, e, List.take_left]
    have e2 : (a ++ (flat u ++ r)).drop (a.length + (flat u).length) = r := by
      rw [← List.append_assoc, show a.length + (flat u).length = (a ++ flat u).length by simp, List.drop_left]
    rw [e2]
    rw [e] at ht
    simp only [List.all_append, List.all_cons, Bool.and_eq_true] at ht ⊢
    exact ⟨⟨ht.1, ⟨rfl, ht.2.1, hm⟩⟩, ht.2.2⟩
/-- What is kept, where none of what came is. -/
theorem keep_put_old {K : List (Int × Int)} : ∀ (t : Tr) (p : List Bool) (m : Tr), keepT K m = none → keepT K (put t p m) = keepT K t
  | t, [], m, h => by
    rw [put_nil]
    show joinO (keepT K t) (keepT K m) = _
    rw [h, joinO_none]
  | .leaf _ _, _ :: _, m, h => rfl
  | .inner a b l r, false :: p, m, h => by
    show joinO (keepT K (put l p m)) (keepT K r) = joinO _ _
    rw [keep_put_old l p m h]
  | .inner a b l r, true :: p, m, h => by
    show joinO (keepT K l) (keepT K (put r p m)) = joinO _ _
    rw [keep_put_old r p m h]
/-- What is kept, where none of what was is. -/
theorem keep_put_new {K : List (Int × Int)} : ∀ (t : Tr) (p : List Bool) (m : Tr) (o : Nat) (u : Tr), sub t p = some (o, u) → (∀ x ∈ lv (flat t), x ∉ K) → keepT K (put t p m) = keepT K m
  | t, [], m, o, u, h, hn => by
    rw [put_nil]
    show joinO (keepT K t) (keepT K m) = _
    have e : keepT K t = none := keep_none (ot := some t) hn
    rw [e]
    rfl
  | .leaf _ _, _ :: _, m, o, u, h, hn => by cases h
  | .inner a b l r, false :: p, m, o, u, h, hn => by
    simp only [sub, Option.map_eq_some_iff, Prod.mk.injEq] at h
    obtain ⟨⟨o', u'⟩, h1, rfl, rfl⟩ := h
    have hl : lv (flat (.inner a b l r)) = lv (flat l) ++ lv (flat r) := by rw [← lv_append]; rfl
    rw [hl] at hn
    show joinO (keepT K (put l p m)) (keepT K r) = _
    have e : keepT K r = none := keep_none (ot := some r) fun x hx => hn x (List.mem_append_right _ hx)
    rw [keep_put_new l p m o' u' h1 fun x hx => hn x (List.mem_append_left _ hx), e, joinO_none]
  | .inner a b l r, true :: p, m, o, u, h, hn => by
    simp only [sub, Option.map_eq_some_iff, Prod.mk.injEq] at h
    obtain ⟨⟨o', u'⟩, h1, rfl, rfl⟩ := h
    have hl : lv (flat (.inner a b l r)) = lv (flat l) ++ lv (flat r) := by rw [← lv_append]; rfl
    rw [hl] at hn
    show joinO (keepT K l) (keepT K (put r p m)) = _
    have e : keepT K l = none := keep_none (ot := some l) fun x hx => hn x (List.mem_append_left _ hx)
    rw [keep_put_new r p m o' u' h1 fun x hx => hn x (List.mem_append_right _ hx), e]
    rfl

/-- Put at a label; of nothing, and at no place, and of nothing that comes, what was. -/
def putO (x : Option Tr) (L I : Int) (y : Option Tr) : Option Tr := match x, y with
  | some t, some m => if okL L I then some (put t (path L.toNat I.toNat) m) else some t
  | x, _ => x
/-- The greatest below n for which it holds. -/
def scanI (f : Nat → Bool) : Nat → Option Nat
  | 0 => none
  | n + 1 => if f n then some n else scanI f n
/-- Level by level. -/
def scanL (g : Nat → Option Nat) : Nat → Nat → Option (Nat × Nat)
  | _, 0 => none
  | k, n + 1 => match g k with
    | some i => some (k, i)
    | none => scanL g (k + 1) n
theorem scanI_some {f : Nat → Bool} : ∀ {n i : Nat}, scanI f n = some i → i < n ∧ f i = true
  | 0, i, h => by cases h
  | n + 1, i, h => by
    simp only [scanI] at h
    by_cases hf : f n = true
    · rw [if_pos hf] at h
      simp only [Option.some.injEq] at h
      subst h
      exact ⟨by omega, hf⟩
    · rw [if_neg hf] at h
      have := scanI_some h
      exact ⟨by omega, this.2⟩
theorem scanL_some {g : Nat → Option Nat} : ∀ {n k k' i : Nat}, scanL g k n = some (k', i) → k ≤ k' ∧ k' < k + n ∧ g k' = some i
  | 0, k, k', i, h => by cases h
  | n + 1, k, k', i, h => by
    simp only [scanL] at h
    cases hg : g k with
    | some j =>
      rw [hg] at h
      simp only [Option.some.injEq, Prod.mk.injEq] at h
      obtain ⟨rfl, rfl⟩ := h
      exact ⟨Nat.le_refl _, by omega, hg⟩
    | none =>
      rw [hg] at h
      have := scanL_some h
      exact ⟨by omega, by omega, this.2.2⟩
/-- Does one so high fit in beside what is at a label? -/
def fitsL (t : Tr) (h : Int) (k i : Nat) : Bool := match sub t (path k i) with
  | some x => decide ((k : Int) + 1 + max (ht x.2) h ≤ ht t)
  | none => false
/-- Where one so high is put; the root's label, if nowhere. -/
def placeF (t : Tr) (h : Int) : Option (Nat × Nat) := scanL (fun k => scanI (fitsL t h k) (2 ^ min k 40)) 0 ((ht t).toNat + 1)
def placeO (x : Option Tr) (h : Int) : Int × Int := match x with
  | none => (0, 0)
  | some t => match placeF t h with
    | some q => ((q.1 : Int), (q.2 : Int))
    | none => (0, 0)
def graftO (x y : Option Tr) : Option Tr := match x with
  | none => y
  | some t => putO (some t) (placeO (some t) (htO y)).1 (placeO (some t) (htO y)).2 y
theorem placeF_some {t : Tr} {h : Int} {k i : Nat} (hp : placeF t h = some (k, i)) : (k : Int) ≤ ht t ∧ i < 2 ^ k ∧ fitsL t h k i = true := by
  have h1 := scanL_some hp
  have h2 := scanI_some h1.2.2
  have h3 := ht_nonneg t
  refine ⟨by omega, Nat.lt_of_lt_of_le h2.1 (Nat.pow_le_pow_right (by omega) (Nat.min_le_left _ _)), h2.2⟩
/-- A place there is isn't the root's. -/
theorem placeF_root {t : Tr} {h : Int} {k i : Nat} (hp : placeF t h = some (k, i)) : 0 < k := by
  have h1 := (placeF_some hp).2.2
  rcases Nat.eq_zero_or_pos k with rfl | hk
  · simp only [fitsL, path, sub_nil, decide_eq_true_eq] at h1
    have := ht_nonneg t
    omega
  · exact hk
/-- What a graft comes to: a way, that there is, and what is higher. -/
theorem graft_some (t m : Tr) (hh : ht t ≤ 60) : ∃ (p : List Bool) (o : Nat) (u : Tr), sub t p = some (o, u) ∧ graftO (some t) (some m) = some (put t p m) ∧
    ((placeO (some t) (ht m) = (0, 0) ∧ p = []) ∨ ((placeO (some t) (ht m)).1 ≠ 0 ∧ ht (put t p m) = ht t)) := by
  cases hp : placeF t (ht m) with
  | none =>
    have e : placeO (some t) (ht m) = (0, 0) := by simp only [placeO, hp]
    refine ⟨[], 0, t, sub_nil t, ?_, Or.inl ⟨e, rfl⟩⟩
    show putO (some t) (placeO (some t) (ht m)).1 (placeO (some t) (ht m)).2 (some m) = _
    rw [e]
    simp [putO, okL, path]
  | some q =>
    obtain ⟨k, i⟩ := q
    obtain ⟨h1, h2, h3⟩ := placeF_some hp
    have h4 := placeF_root hp
    have e : placeO (some t) (ht m) = ((k : Int), (i : Int)) := by simp only [placeO, hp]
    simp only [fitsL] at h3
    cases hs : sub t (path k i) with
    | none => rw [hs] at h3; cases h3
    | some x =>
      obtain ⟨o, u⟩ := x
      rw [hs] at h3
      simp only [decide_eq_true_eq] at h3
      refine ⟨path k i, o, u, hs, ?_, Or.inr ⟨?_, ?_⟩⟩
      · show putO (some t) (placeO (some t) (ht m)).1 (placeO (some t) (ht m)).2 (some m) = _
        rw [e]
        simp only [putO, Int.toNat_natCast]
        rw [okL_nat (by omega) h2, if_pos rfl]
      · rw [e]
        show (k : Int) ≠ 0
        omega
      · rw [put_ht t _ m o u hs, path_length]
        omega

end Go.Proofs.Ytokhaldnakjiaaa

/- The document's Place, Put and Graft of layer 12. Condition: the slices read as trees' spots, or nothing's, of at most 100,000, at most 60 high. -/
namespace Go.Proofs.Ytokhaldnakjiaaa
open Go Go.RowKit
set_option linter.unusedVariables false

theorem putO_at (x : Option Tr) (L I : Int) (y : Option Tr) (o : Nat) (u : Tr) (ha : atO x L I = (o : Int)) (hp : partO x L I = flat u) :
    spo (putO x L I y) = (spo x).take o ++ joinS (flat u) (spo y) ++ (spo x).drop (o + (flat u).length) := by
  unfold atO at ha
  unfold partO at hp
  by_cases ho : okL L I = true
  · rw [if_pos ho] at ha hp
    cases x with
    | none => simp only [subO] at ha; omega
    | some t =>
      cases hs : sub t (path L.toNat I.toNat) with
      | none => simp only [subO, hs] at ha; omega
      | some q =>
        obtain ⟨o', u'⟩ := q
        simp only [subO, hs] at ha hp
        obtain rfl : o' = o := by omega
        have hpt := sub_part hs
        have hle := sub_le hs
        cases y with
        | none =>
          have e : putO (some t) L I none = some t := rfl
          rw [e]
          have ej : joinS (flat u) (spo none) = flat u := by
            unfold joinS
            rw [if_neg (flat_ne u), if_pos (show spo none = [] from rfl)]
          rw [ej, ← hp]
          have h1 := hpt.1
          show flat t = (flat t).take o' ++ flat u' ++ (flat t).drop (o' + (flat u').length)
          rw [← h1]
          conv => lhs; rw [← List.take_append_drop o' (flat t), ← List.take_append_drop (flat u').length ((flat t).drop o'), List.drop_drop]
          rw [h1, List.append_assoc]
        | some m =>
          have e : putO (some t) L I (some m) = some (put t (path L.toNat I.toNat) m) := by simp only [putO]; rw [if_pos ho]
          rw [e]
          have ej : joinS (flat u) (spo (some m)) = (false, 0, 0) :: (flat u ++ flat m) := by
            unfold joinS
            rw [if_neg (flat_ne u), if_neg (show ¬ spo (some m) = [] from flat_ne m)]; rfl
          rw [ej, ← hp]
          exact put_flat t _ m o' u' hs
  · rw [if_neg ho] at ha; omega
theorem putO_no (x : Option Tr) (L I : Int) (y : Option Tr) (ha : atO x L I = -1) : putO x L I y = x := by
  unfold atO at ha
  cases x with
  | none => cases y <;> rfl
  | some t =>
    cases y with
    | none => rfl
    | some m =>
      simp only [putO]
      by_cases ho : okL L I = true
      · rw [if_pos ho] at ha ⊢
        cases hs : sub t (path L.toNat I.toNat) with
        | none => rw [put_none t _ m hs]
        | some q =>
          simp only [subO, hs] at ha
          omega
      · rw [if_neg ho]
theorem putO_len (x : Option Tr) (L I : Int) (y : Option Tr) : (spo (putO x L I y)).length ≤ (spo x).length + (spo y).length + 1 := by
  rcases at_part x L I with ⟨ha, -⟩ | ⟨o, u, ha, hp, hle, -, -⟩
  · rw [putO_no x L I y ha]; omega
  · rw [putO_at x L I y o u ha hp]
    have := joinS_len (flat u) (spo y)
    simp only [List.length_append, List.length_take, List.length_drop]
    omega
set_option maxRecDepth 100000 in
set_option maxHeartbeats 8000000 in
theorem refPut_any (v u : Value) (x y : Option Tr) (L I : Int) (w : World) (h : Spots w.heap.size w (spo x) [v]) (h' : Spots w.heap.size w (spo y) [u]) (hn : (spo x).length ≤ 100000) (hn' : (spo y).length ≤ 100000) :
    Calls Try.prog 53 #[v, vM L I, u] w fun e W' => ∃ v', e = .returned v' ∧ Spots W'.heap.size W' (spo (putO x L I y)) [v'] ∧ Below w.heap.size w W' := by
  have HX := Lib.hid h
  have HY := Lib.hid h'
  obtain ⟨A, cap, rfl, hlc, hcm, _⟩ := spots_at h
  have hcm2 : cap ≤ 9223372036854775807 := Nat.le_trans hcm (by decide)
  clear h h' hcm
  go_enter Try.func53, Try.ntmps53
  go_wp2_with fail
  obtain ⟨W0, hW0, B⟩ : ∃ W0, w.alloc (.cells #[.int .i64 L, .int .i64 I] 32) = W0 ∧ Below w.heap.size w W0 := ⟨_, rfl, below_new _ _⟩
  rw [hW0]
  clear hW0
  replace HX := Lib.hid (keeps_spots _ _ _ _ _ _ HX.out B B.size)
  replace HY := Lib.hid (keeps_spots _ _ _ _ _ _ HY.out B B.size)
  refine (refAt_any _ x L I W0 HX.out (by omega)).mono ?_
  rintro e W1 ⟨rfl, hb⟩
  replace HX := Lib.hid (keeps_spots _ _ _ _ _ _ HX.out hb hb.size)
  replace HY := Lib.hid (keeps_spots _ _ _ _ _ _ HY.out hb hb.size)
  replace B := B.trans (hb.mono B.size)
  clear hb
  rcases at_part x L I with ⟨ha, -⟩ | ⟨o, t, ha, hp, hle, hpt, hen⟩
  · have HE := Lib.hid (congrArg spo (putO_no x L I y ha))
    rw [ha]
    clear ha
    have B0 := below_new W1 (.cells #[] 52)
    have HX1 := Lib.hid (keeps_spots _ _ _ _ _ _ HX.out B0 (Nat.le_refl _))
    go_wp2_with (at_builtin; refine append_spots _ rfl _ _ rfl W1.heap.size _ _ _ rfl (owns_empty W1 52 3 (Nat.le_refl _)) W1.heap.size _ (spo x) rfl HX1.out ?c1 ?c2 ?_)
    case c1 => omega
    case c2 => simp
    intro v' w' hown' hgr
    have B2 := ((Below.refl W1.heap.size W1).alloc (Nat.le_refl _) (.cells #[] 52)).grown hgr (by simp) (by intro k hk; simp [Value.ownBlock] at hk; omega)
    go_wp2
    go_ret
    rw [HE.out]
    exact ⟨_, rfl, own_spots (by simpa using hown'), B.trans (B2.mono B.size)⟩
  · have HE := Lib.hid (putO_at x L I y o t ha hp)
    have HEN := Lib.hid hen
    rw [ha]
    obtain ⟨m, hm⟩ : ∃ m, (flat t).length = m := ⟨_, rfl⟩
    rw [hm] at hle hpt HEN HE
    obtain ⟨z, hz⟩ : ∃ z, o + m = z := ⟨_, rfl⟩
    rw [hz] at hle HEN HE
    have hzx : z ≤ (spo x).length := hle
    obtain ⟨A1, hr1, hS1⟩ := cut_to HX.out rfl hlc o (by omega)
    obtain ⟨A2, hr2, hS2⟩ := cut_mid HX.out hlc o z (by omega) hle
    obtain ⟨A3, hr3, hS3⟩ := cut_from HX.out z hle
    have e1 : z - o = m := by omega
    rw [e1] at hr2 hS2
    rw [hpt] at hS2
    have HS1 := Lib.hid hS1
    have HS2 := Lib.hid hS2
    have HS3 := Lib.hid hS3
    have HR1 := Lib.hid hr1
    have HR2 := Lib.hid hr2
    have HR3 := Lib.hid hr3
    have HM := Lib.hid hm
    have hml : m ≤ 100000 := by omega
    have hol : o ≤ 100000 := by omega
    have hoz : o ≤ z := by omega
    have hox : o ≤ (spo x).length := by omega
    have hJL := joinS_len (flat t) (spo y)
    rw [hm] at hJL
    clear ha hp hpt hen hm hS1 hS2 hS3 hr1 hr2 hr3 hz e1 hle
    go_wp2_with fail
    refine (refEnd_any _ _ (o : Int) W1 HX.out (by omega)).mono ?_
    rintro e W2 ⟨rfl, rfl⟩
    rw [HEN.out]
    have hr1 := HR1.out
    have B0 := below_new W1 (.cells #[] 52)
    have HS1a := Lib.hid (keeps_spots _ _ _ _ _ _ HS1.out B0 (Nat.le_refl _))
    go_wp2_with (at_builtin; refine append_spots _ rfl _ _ rfl W1.heap.size _ _ _ rfl (owns_empty W1 52 3 (Nat.le_refl _)) W1.heap.size _ ((spo x).take o) rfl HS1a.out ?c1 ?c2 ?_)
    case c1 => rw [List.length_take]; omega
    case c2 => simp
    intro v1 w1 hown1 hgr1
    have B2 := ((Below.refl W1.heap.size W1).alloc (Nat.le_refl _) (.cells #[] 52)).grown hgr1 (by simp) (by intro k hk; simp [Value.ownBlock] at hk; omega)
    have HO1 := Lib.hid hown1
    replace HS2 := Lib.hid (keeps_spots _ _ _ _ _ _ HS2.out B2 B2.size)
    replace HY := Lib.hid (keeps_spots _ _ _ _ _ _ HY.out B2 B2.size)
    have hr2 := HR2.out
    clear hown1 hgr1 hr1 B0 HS1 HS1a
    go_wp2_with fail
    refine (refJoinS_any _ u (flat t) (spo y) w1 HS2.out HY.out (by rw [HM.out]; omega)).mono ?_
    rintro e w2 ⟨vj, rfl, hj, hb⟩
    have HJ := Lib.hid hj
    replace HO1 := Lib.hid (owns_below HO1.out hb)
    replace B2 := B2.trans (hb.mono B2.size)
    clear hj hb hr2
    go_wp2_with (at_builtin; refine append_spots _ rfl _ _ rfl W1.heap.size _ _ _ rfl HO1.out _ _ _ rfl HJ.out ?c3 ?c4 ?_)
    case c3 => omega
    case c4 => exact B2.size
    intro v3 w3 hown3 hgr3
    have B3 := B2.grown hgr3 B2.size (fun k hk => (HO1.out.lt k hk).1)
    have HO3 := Lib.hid hown3
    have HS3a := Lib.hid (keeps_spots _ _ _ _ _ _ HS3.out B3 B3.size)
    have hr3 := HR3.out
    clear hown3 hgr3 B2 HO1 HJ
    go_wp2_with (at_builtin; refine append_spots _ rfl _ _ rfl W1.heap.size _ _ _ rfl HO3.out _ _ ((spo x).drop z) (congrArg (fun q => Value.slice A3 q (cap - z)) (List.length_drop).symm) (by rw [List.length_drop]; exact HS3a.out) ?c5 ?c6 ?_)
    case c5 => simp only [List.length_drop]; omega
    case c6 => exact B3.size
    intro v4 w4 hown4 hgr4
    have B4 := B3.grown hgr4 B3.size (fun k hk => (HO3.out.lt k hk).1)
    have HV : Hid (Spots w4.heap.size w4 (spo (putO x L I y)) [v4]) := Lib.hid (by
      rw [HE.out]
      refine own_spots (base := W1.heap.size) ?_
      have e1 : ((spo x).take o ++ joinS (flat t) (spo y) ++ (spo x).drop z).length = ((spo x).take o).length + (joinS (flat t) (spo y)).length + ((spo x).drop z).length := by simp only [List.length_append]
      have e2 : ((spo x).take o).length = o := by rw [List.length_take]; omega
      rw [e1, e2]
      simpa [List.flatMap_append, List.append_assoc] using hown4)
    clear hown4 hgr4 HO3 hr3
    go_wp2
    go_ret
    exact ⟨_, rfl, HV.out, B.trans (B4.mono B.size)⟩


theorem refHeightO_any (ot : Option Tr) (v : Value) (w : World) (h : Spots w.heap.size w (spo ot) [v]) (hn : (spo ot).length ≤ 400000) : Calls Try.prog 9 #[v] w fun e W' => e = .returned (.int .i64 (htO ot)) ∧ Below w.heap.size w W' := by
  cases ot with
  | none => exact refHeight_nil v w h
  | some t => exact refHeight_flat t v w h (Nat.le_trans hn (by decide))
theorem min_forty (k : Nat) : min (k : Int) 40 = ((min k 40 : Nat) : Int) := by omega
theorem scanL_step {g : Nat → Option Nat} {k n : Nat} (h : g k = none) : scanL g k (n + 1) = scanL g (k + 1) n := by simp only [scanL, h]
theorem scanL_here {g : Nat → Option Nat} {k n i : Nat} (h : g k = some i) : scanL g k (n + 1) = some (k, i) := by simp only [scanL, h]
theorem scanI_step {f : Nat → Bool} {n : Nat} (h : f n = false) : scanI f (n + 1) = scanI f n := by simp only [scanI, h]; rfl
theorem scanI_here {f : Nat → Bool} {n : Nat} (h : f n = true) : scanI f (n + 1) = some n := by simp only [scanI, h]; rfl
theorem partO_fits (t : Tr) (h : Int) {k j : Nat} (h1 : k ≤ 60) (h2 : j < 2 ^ k) : (partO (some t) (k : Int) (j : Int) = [] ∧ fitsL t h k j = false) ∨ ∃ u, partO (some t) (k : Int) (j : Int) = spo (some u) ∧ ht u ≤ ht t ∧ fitsL t h k j = decide ((k : Int) + 1 + max (ht u) h ≤ ht t) := by
  rw [partO_nat (some t) h1 h2]
  cases hs : sub t (path k j) with
  | none => left; simp [subO, fitsL, hs]
  | some x =>
    obtain ⟨o, u⟩ := x
    have := sub_high t _ o u hs
    right
    refine ⟨u, by simp [subO, hs, spo], by omega, by simp [fitsL, hs]⟩

set_option maxRecDepth 100000 in
set_option maxHeartbeats 8000000 in
theorem refPlace_none (v : Value) (h : Int) (w : World) (hx : Spots w.heap.size w [] [v]) :
    Calls Try.prog 54 #[v, .int .i64 h] w fun e W' => e = .returned (vM 0 0) ∧ Below w.heap.size w W' := by
  have HX := Lib.hid hx
  clear hx
  go_enter Try.func54, Try.ntmps54
  go_wp2_with fail
  obtain ⟨W0, hW0, b4, B⟩ : ∃ W0, w.alloc (.cells #[.int .i64 0, .int .i64 0] 32) = W0 ∧ Box W0 w.heap.size [.int .i64 0, .int .i64 0] ∧ Below w.heap.size w W0 := ⟨_, rfl, Box.new w _ _, below_new _ _⟩
  rw [hW0]
  clear hW0
  refine (refHeightO_any none v W0 (keeps_spots _ _ _ _ _ _ HX.out B B.size) (by decide)).mono ?_
  rintro e W1 ⟨rfl, hb⟩
  replace b4 := b4.next hb
  replace B := B.trans (hb.mono B.size)
  clear hb
  have hn : htO none = -1 := rfl
  rw [hn]
  go_wp2_with fail
  go_loop [6] (fun k => k = .int .i64 0) (fun _ => 0)
  case atStart => rfl
  case round =>
    obtain rfl := hrel
    have r0 := b4.c 0 _ rfl
    have r1 := b4.c 1 _ rfl
    have g0 := b4.f 0 (by decide)
    have g1 := b4.f 1 (by decide)
    have HB := Lib.hid B
    clear b4 B
    go_wp2
    (try simp only [Exit.inBlock, Exit.then]); refine bodyPost_ret (v := .agg #[.int .i64 0, .int .i64 0]) (by simp [results, Try.results54, go_sem, r0, r1]) rfl ?_
    exact ⟨rfl, (HB.out.setCell (p := ⟨w.heap.size, 0, none⟩) (Nat.le_refl _) _).setCell (p := ⟨w.heap.size, 1, none⟩) (Nat.le_refl _) _⟩
set_option maxRecDepth 100000 in
set_option maxHeartbeats 8000000 in
theorem refPlace_some (v : Value) (t : Tr) (h : Int) (w : World) (hx : Spots w.heap.size w (flat t) [v]) (hn : (flat t).length ≤ 100000) (hh : ht t ≤ 30) (h0 : -1 ≤ h) (h1 : h ≤ 1000) :
    Calls Try.prog 54 #[v, .int .i64 h] w fun e W' => e = .returned (vM (placeO (some t) h).1 (placeO (some t) h).2) ∧ Below w.heap.size w W' := by
  have HX := Lib.hid hx
  clear hx
  obtain ⟨H, hH⟩ : ∃ H : Nat, ht t = (H : Int) := ⟨(ht t).toNat, by have := ht_nonneg t; omega⟩
  have hH30 : H ≤ 30 := by omega
  obtain ⟨g, hg⟩ : ∃ g, (fun k => scanI (fitsL t h k) (2 ^ min k 40)) = g := ⟨_, rfl⟩
  have HPF : Hid (placeF t h = scanL g 0 (H + 1)) := Lib.hid (by unfold placeF; rw [hg, hH]; rfl)
  have HG : Hid (∀ k, g k = scanI (fitsL t h k) (2 ^ min k 40)) := Lib.hid fun k => by rw [← hg]
  have HP : Hid (∀ k j : Nat, k ≤ 60 → j < 2 ^ k → (partO (some t) (k : Int) (j : Int) = [] ∧ fitsL t h k j = false) ∨ ∃ u, partO (some t) (k : Int) (j : Int) = spo (some u) ∧ ht u ≤ (H : Int) ∧ fitsL t h k j = decide ((k : Int) + 1 + max (ht u) h ≤ (H : Int))) := Lib.hid fun k j h1 h2 => by
    have := partO_fits t h h1 h2
    rwa [hH] at this
  have HPart := Lib.hid (fun (v : Value) (L I : Int) (w : World) (hs : Spots w.heap.size w (spo (some t)) [v]) => refPart_any v (some t) L I w hs (Nat.le_trans hn (by decide)))
  have HLen : Hid (∀ (L I : Int) (u : Tr), partO (some t) L I = spo (some u) → (spo (some u)).length ≤ 100000) := Lib.hid fun L I u e => by
    rcases at_part (some t) L I with ⟨-, hp⟩ | ⟨o, u', -, hp, hle, -, -⟩
    · rw [← e, hp]; exact Nat.zero_le _
    · rw [← e, hp]
      have : (spo (some t)).length = (flat t).length := rfl
      omega
  have HHt : Hid (∀ w, Spots w.heap.size w (flat t) [v] → Calls Try.prog 9 #[v] w fun e W' => e = .returned (.int .i64 (H : Int)) ∧ Below w.heap.size w W') := Lib.hid fun w hs => by
    have := refHeightO_any (some t) v w hs (Nat.le_trans hn (by decide))
    have e : htO (some t) = (H : Int) := hH
    rwa [e] at this
  clear hg hH hh
  go_enter Try.func54, Try.ntmps54
  go_wp2_with fail
  obtain ⟨W0, hW0, b4, B⟩ : ∃ W0, w.alloc (.cells #[.int .i64 0, .int .i64 0] 32) = W0 ∧ Box W0 w.heap.size [.int .i64 0, .int .i64 0] ∧ Below w.heap.size w W0 := ⟨_, rfl, Box.new w _ _, below_new _ _⟩
  rw [hW0]
  clear hW0
  refine (HHt.out W0 (keeps_spots _ _ _ _ _ _ HX.out B B.size)).mono ?_
  rintro e W1 ⟨rfl, hb⟩
  replace b4 := b4.next hb
  replace B := B.trans (hb.mono B.size)
  clear hb
  go_wp2_with fail
  go_loopw [6] (fun kv wr => ∃ (k : Nat) (wq : World), wq = wr ∧ kv = .int .i64 (k : Int) ∧ k ≤ H + 1 ∧ Hid (placeF t h = scanL g k (H + 1 - k)) ∧ Box wr w.heap.size [.int .i64 0, .int .i64 0] ∧ Below w.heap.size w wr) (fun kv _ => H + 2 - (intOf kv).toNat)
  case atStart => exact ⟨0, _, rfl, rfl, Nat.zero_le _, HPF, b4, B⟩
  case round =>
    clear b4 B
    obtain ⟨k, wr, rfl, rfl, hk, HS, b4, B⟩ := hrel
    by_cases hkH : k ≤ H
    · have hd : decide (k ≤ H) = true := decide_eq_true hkH
      have hk40 : ¬ (40 ≤ k) := by omega
      have hk41 : k < 40 := by omega
      have HG2 : Hid (g k = scanI (fitsL t h k) (2 ^ k)) := Lib.hid (by rw [HG.out, show min k 40 = k by omega])
      obtain ⟨P, hP⟩ : ∃ P, 2 ^ k = P := ⟨_, rfl⟩
      have hwp : wrap64 (2 ^ k) = (P : Int) := by rw [← hP]; exact wrap_pow (by omega)
      have hPle : P ≤ 1073741824 := by rw [← hP]; exact Nat.le_trans (Nat.pow_le_pow_right (by omega) (show k ≤ 30 by omega)) (by decide)
      have hPpos : 0 < P := by rw [← hP]; exact Nat.two_pow_pos k
      rw [hP] at HG2
      have HPP := Lib.hid hP
      clear hP
      go_wp2_with fail
      rw [hwp]
      clear hwp
      go_loopw [7, 8, 9] (fun iv _ _ wr' => ∃ (j : Nat) (wq : World), wq = wr' ∧ j ≤ P ∧ iv = .int .i64 ((j : Int) - 1) ∧ Hid (g k = scanI (fitsL t h k) j) ∧ Box wr' w.heap.size [.int .i64 0, .int .i64 0] ∧ Below w.heap.size w wr') (fun iv _ _ _ => (intOf iv + 1).toNat)
      case atStart => exact ⟨P, _, rfl, Nat.le_refl _, rfl, HG2, b4, B⟩
      case round =>
        clear b4 B
        obtain ⟨j, wr', rfl, hj, rfl, HJ, b4, B⟩ := hrel
        cases j with
        | zero =>
          have hge : decide ((0 : Int) ≤ ((0 : Nat) : Int) - 1) = false := by decide
          have HN : Hid (placeF t h = scanL g (k + 1) (H + 1 - (k + 1))) := Lib.hid (by
            rw [HS.out, show H + 1 - k = (H + 1 - (k + 1)) + 1 by omega]
            exact scanL_step (by rw [HJ.out]; rfl))
          go_wp2
          go_roundw
          case rel => exact ⟨k + 1, _, rfl, by go_num, by omega, HN, b4, B⟩
          case measure => simp [intOf]; omega
        | succ j =>
          have ek : ((j + 1 : Nat) : Int) - 1 = (j : Int) := by omega
          rw [ek]
          have hjP : j < 2 ^ k := by rw [HPP.out]; omega
          have HPJ := Lib.hid (HP.out k j (by omega) hjP)
          clear hjP
          go_wp2_with fail
          obtain ⟨W2, hW2, b8, hb⟩ : ∃ W2, wr'.alloc (.cells #[.int .i64 (k : Int), .int .i64 (j : Int)] 32) = W2 ∧ Box W2 wr'.heap.size [.int .i64 (k : Int), .int .i64 (j : Int)] ∧ Below wr'.heap.size wr' W2 := ⟨_, rfl, Box.new wr' _ _, below_new _ _⟩
          rw [hW2]
          clear hW2
          obtain ⟨G, hG⟩ : ∃ G, wr'.heap.size = G := ⟨_, rfl⟩
          rw [hG] at b8
          rw [hG]
          replace b4 := b4.next hb
          replace B := B.trans (hb.mono B.size)
          clear hb hG
          refine (HPart.out v (k : Int) (j : Int) W2 (keeps_spots _ _ _ _ _ _ HX.out B B.size)).mono ?_
          rintro e W3 ⟨vp, rfl, hvp, hb⟩
          replace b4 := b4.next hb
          replace b8 := b8.next hb
          replace B := B.trans (hb.mono B.size)
          clear hb
          rcases HPJ.out with ⟨hp, hf⟩ | ⟨u, hp, hu, hf⟩
          · rw [hp] at hvp
            obtain ⟨Ap, cp, rfl, -, -⟩ := spots_len hvp 0 rfl
            have HJ2 : Hid (g k = scanI (fitsL t h k) j) := Lib.hid (by rw [HJ.out, scanI_step hf])
            clear hvp hp hf b8
            go_wp2
            go_roundw
            case rel => exact ⟨j, _, rfl, by omega, by go_num, HJ2, b4, B⟩
            case measure => simp [intOf]
          · rw [hp] at hvp
            have HVP := Lib.hid hvp
            have hpos := flat_pos u
            have hgt : decide (0 < (spo (some u)).length) = true := decide_eq_true (by show 0 < (flat u).length; omega)
            obtain ⟨Ap, cp, e, -, -⟩ := spots_len hvp (spo (some u)).length rfl
            subst e
            have HHU := Lib.hid (refHeightO_any (some u) (.slice Ap (spo (some u)).length cp) W3 hvp (by have := HLen.out _ _ _ hp; omega))
            obtain ⟨N, hN⟩ : ∃ N, (spo (some u)).length = N := ⟨_, rfl⟩
            rw [hN] at hgt HHU
            rw [hN]
            have hgt2 : (0 : Int) < (N : Int) := by have := of_decide_eq_true hgt; omega
            have hu0 := ht_nonneg u
            have e1 : htO (some u) = ht u := rfl
            rw [e1] at HHU
            obtain ⟨a, ha⟩ : ∃ a, ht u = a := ⟨_, rfl⟩
            rw [ha] at HHU hu hu0 hf
            clear hvp hp hN HVP hpos e1 ha
            obtain ⟨mx, hmx⟩ : ∃ mx, max a h = mx := ⟨_, rfl⟩
            have hmx0 : 0 ≤ mx := by omega
            have hmx1 : mx ≤ 2000 := by omega
            have q0 := b8.c 0 _ rfl
            have q1 := b8.c 1 _ rfl
            go_wp2_with fail
            refine HHU.out.mono ?_
            rintro e W4 ⟨rfl, hb⟩
            replace b4 := b4.next hb
            replace b8 := b8.next hb
            replace B := B.trans (hb.mono B.size)
            clear hb q0 q1 HHU
            by_cases hf2 : (k : Int) + 1 + mx ≤ (H : Int)
            · have HFF : Hid (placeO (some t) h = ((k : Int), (j : Int))) := Lib.hid (by
                have e2 : placeF t h = some (k, j) := by
                  rw [HS.out, show H + 1 - k = (H - k) + 1 by omega]
                  refine scanL_here ?_
                  rw [HJ.out]
                  refine scanI_here ?_
                  rw [hf, hmx]
                  exact decide_eq_true hf2
                simp only [placeO, e2])
              obtain ⟨kv, hkv⟩ : ∃ kv : Int, (k : Int) = kv := ⟨_, rfl⟩
              obtain ⟨jv, hjv⟩ : ∃ jv : Int, (j : Int) = jv := ⟨_, rfl⟩
              rw [hkv, hjv] at HFF
              have q0 := b8.c 0 _ rfl
              have q1 := b8.c 1 _ rfl
              have r0 := b4.c 0 _ rfl
              have r1 := b4.c 1 _ rfl
              have g0 := b4.f 0 (by decide)
              have g1 := b4.f 1 (by decide)
              have HB := Lib.hid B
              clear b4 b8 B hf
              go_wp2
              all_goals
                (try simp only [Exit.inBlock, Exit.then]); refine bodyPost_ret (v := .agg #[.int .i64 kv, .int .i64 jv]) (by simp [results, Try.results54, go_sem, r0, r1]) rfl ?_
                rw [HFF.out]
                exact ⟨rfl, (HB.out.setCell (p := ⟨w.heap.size, 0, none⟩) (Nat.le_refl _) _).setCell (p := ⟨w.heap.size, 1, none⟩) (Nat.le_refl _) _⟩
            · have HJ2 : Hid (g k = scanI (fitsL t h k) j) := Lib.hid (by rw [HJ.out, scanI_step (by rw [hf, hmx]; exact decide_eq_false hf2)])
              clear hf b8
              go_wp2
              go_roundw
              case rel => exact ⟨j, _, rfl, by omega, by go_num, HJ2, b4, B⟩
              case measure => simp [intOf]
    · have hd : decide (k ≤ H) = false := decide_eq_false hkH
      have HFF : Hid (placeO (some t) h = (0, 0)) := Lib.hid (by
        have e2 : placeF t h = none := by rw [HS.out, show H + 1 - k = 0 by omega]; rfl
        simp only [placeO, e2])
      have r0 := b4.c 0 _ rfl
      have r1 := b4.c 1 _ rfl
      have g0 := b4.f 0 (by decide)
      have g1 := b4.f 1 (by decide)
      have HB := Lib.hid B
      clear b4 B
      go_wp2
      (try simp only [Exit.inBlock, Exit.then]); refine bodyPost_ret (v := .agg #[.int .i64 0, .int .i64 0]) (by simp [results, Try.results54, go_sem, r0, r1]) rfl ?_
      rw [HFF.out]
      exact ⟨rfl, (HB.out.setCell (p := ⟨w.heap.size, 0, none⟩) (Nat.le_refl _) _).setCell (p := ⟨w.heap.size, 1, none⟩) (Nat.le_refl _) _⟩

end Go.Proofs.Ytokhaldnakjiaaa

/- The document's Graft; which of two trees is ahead. Condition: the slices read as trees' spots, or nothing's, of at most 100,000, at most 30 high. -/
namespace Go.Proofs.Ytokhaldnakjiaaa
open Go Go.RowKit
set_option linter.unusedVariables false

theorem refPlaceO_any (x : Option Tr) (v : Value) (h : Int) (w : World) (hx : Spots w.heap.size w (spo x) [v]) (hn : (spo x).length ≤ 100000) (hh : htO x ≤ 30) (h0 : -1 ≤ h) (h1 : h ≤ 1000) :
    Calls Try.prog 54 #[v, .int .i64 h] w fun e W' => e = .returned (vM (placeO x h).1 (placeO x h).2) ∧ Below w.heap.size w W' := by
  cases x with
  | none => exact refPlace_none v h w hx
  | some t => exact refPlace_some v t h w hx hn hh h0 h1
theorem htO_low (x : Option Tr) : -1 ≤ htO x := by
  cases x with
  | none => exact Int.le_refl _
  | some t => have := ht_nonneg t; show -1 ≤ ht t; omega
set_option maxRecDepth 100000 in
set_option maxHeartbeats 8000000 in
theorem refGraft_any (v u : Value) (x y : Option Tr) (w : World) (h : Spots w.heap.size w (spo x) [v]) (h' : Spots w.heap.size w (spo y) [u]) (hn : (spo x).length ≤ 100000) (hn' : (spo y).length ≤ 100000) (hh : htO x ≤ 30) (hh' : htO y ≤ 30) :
    Calls Try.prog 32 #[v, u] w fun e W' => ∃ v', e = .returned v' ∧ Spots W'.heap.size W' (spo (graftO x y)) [v'] ∧ Below w.heap.size w W' := by
  have HX := Lib.hid h
  have HY := Lib.hid h'
  have hlow := htO_low y
  obtain ⟨A, cap, rfl, hlc, hcm, _⟩ := spots_at h
  have hcm2 : cap ≤ 9223372036854775807 := Nat.le_trans hcm (by decide)
  clear h h' hcm
  cases x with
  | none =>
    have HE : Hid (spo (graftO none y) = spo y) := Lib.hid rfl
    have hz : ((((spo none).length : Nat) : Int) == 0) = true := rfl
    have B0 := below_new w (.cells #[] 52)
    have HY1 := Lib.hid (keeps_spots _ _ _ _ _ _ HY.out B0 (Nat.le_refl _))
    go_enter Try.func32, Try.ntmps32
    go_wp2_with (at_builtin; refine append_spots _ rfl _ _ rfl w.heap.size _ _ _ rfl (owns_empty w 52 3 (Nat.le_refl _)) w.heap.size _ (spo y) rfl HY1.out ?c1 ?c2 ?_)
    case c1 => omega
    case c2 => simp
    intro v' w' hown' hgr
    have B2 := ((Below.refl w.heap.size w).alloc (Nat.le_refl _) (.cells #[] 52)).grown hgr (by simp) (by intro k hk; simp [Value.ownBlock] at hk; omega)
    go_wp2
    go_ret
    rw [HE.out]
    exact ⟨_, rfl, own_spots (by simpa using hown'), B2⟩
  | some t =>
    have hpos := flat_pos t
    have hz : ((((spo (some t)).length : Nat) : Int) == 0) = false := beq_eq_false_iff_ne.2 (by show ((flat t).length : Int) ≠ 0; omega)
    have HE : Hid (graftO (some t) y = putO (some t) (placeO (some t) (htO y)).1 (placeO (some t) (htO y)).2 y) := Lib.hid rfl
    rw [HE.out]
    obtain ⟨⟨L, I⟩, hLI⟩ : ∃ q, placeO (some t) (htO y) = q := ⟨_, rfl⟩
    rw [hLI]
    have HPL : Hid (∀ (v : Value) (w : World), Spots w.heap.size w (spo (some t)) [v] → Calls Try.prog 54 #[v, .int .i64 (htO y)] w fun e W' => e = .returned (vM L I) ∧ Below w.heap.size w W') := Lib.hid fun v w hs => by
      have := refPlaceO_any (some t) v (htO y) w hs hn hh hlow (by omega)
      rwa [hLI] at this
    clear hpos hLI HE
    go_enter Try.func32, Try.ntmps32
    go_wp2_with fail
    refine (refHeightO_any y u w HY.out (by omega)).mono ?_
    rintro e W1 ⟨rfl, B⟩
    replace HX := Lib.hid (keeps_spots _ _ _ _ _ _ HX.out B B.size)
    replace HY := Lib.hid (keeps_spots _ _ _ _ _ _ HY.out B B.size)
    go_wp2_with fail
    refine (HPL.out _ W1 HX.out).mono ?_
    rintro e W2 ⟨rfl, hb⟩
    replace HX := Lib.hid (keeps_spots _ _ _ _ _ _ HX.out hb hb.size)
    replace HY := Lib.hid (keeps_spots _ _ _ _ _ _ HY.out hb hb.size)
    replace B := B.trans (hb.mono B.size)
    clear hb
    go_wp2_with fail
    refine (refPut_any _ u (some t) y L I W2 HX.out HY.out hn hn').mono ?_
    rintro e W3 ⟨v', rfl, hv, hb⟩
    have HV := Lib.hid hv
    replace B := B.trans (hb.mono B.size)
    clear hv hb
    go_wp2
    go_ret
    exact ⟨_, rfl, HV.out, B⟩

/-- The least of members. -/
def firstM : List (Int × Int) → Int × Int
  | [] => (0, 0)
  | x :: xs => xs.foldl (fun out y => if lessM y.1 y.2 out.1 out.2 then y else out) x
theorem firstM_snoc (m : List (Int × Int)) (y : Int × Int) : firstM (m ++ [y]) = if m = [] then y else if lessM y.1 y.2 (firstM m).1 (firstM m).2 then y else firstM m := by
  cases m with
  | nil => rfl
  | cons x xs =>
    simp [firstM]
    rfl
/-- Is a tree ahead of another one? -/
def aheadO (x y : Option Tr) : Bool := decide ((lvO y).length < (lvO x).length) || (decide ((lvO x).length = (lvO y).length) && lessM (firstM (lvO x)).1 (firstM (lvO x)).2 (firstM (lvO y)).1 (firstM (lvO y)).2)
set_option maxRecDepth 100000 in
set_option maxHeartbeats 8000000 in
theorem refFirst_any (v : Value) (xs : List Sp) (w : World) (h : Spots w.heap.size w xs [v]) (hn : xs.length ≤ 100000) :
    Calls Try.prog 52 #[v] w fun e W' => e = .returned (vM (firstM (lv xs)).1 (firstM (lv xs)).2) ∧ Below w.heap.size w W' := by
  have HX := Lib.hid h
  clear h
  go_enter Try.func52, Try.ntmps52
  go_wp2_with fail
  obtain ⟨W0, hW0, b2, B⟩ : ∃ W0, w.alloc (.cells #[.int .i64 0, .int .i64 0] 39) = W0 ∧ Box W0 w.heap.size [.int .i64 0, .int .i64 0] ∧ Below w.heap.size w W0 := ⟨_, rfl, Box.new w _ _, below_new _ _⟩
  rw [hW0]
  clear hW0
  refine (refLeaves_any v xs W0 (keeps_spots _ _ _ _ _ _ HX.out B B.size) (by omega)).mono ?_
  rintro e W1 ⟨vm, rfl, hm, hb⟩
  replace b2 := b2.next hb
  replace B := B.trans (hb.mono B.size)
  obtain ⟨A, cap, rfl, hlc, hcm, hp⟩ := mems_at hm
  have hcm2 : cap ≤ 9223372036854775807 := Nat.le_trans hcm (by decide)
  have HP := Lib.hid hp
  obtain ⟨m, hmm⟩ : ∃ m, lv xs = m := ⟨_, rfl⟩
  rw [hmm] at HP hlc
  rw [hmm]
  have HMM := Lib.hid hmm
  clear hb hm hp hcm hmm
  go_wp2_with fail
  obtain ⟨W2, hW2, b4, hb⟩ : ∃ W2, W1.alloc (.cells #[.int .i64 0, .int .i64 0] 39) = W2 ∧ Box W2 W1.heap.size [.int .i64 0, .int .i64 0] ∧ Below W1.heap.size W1 W2 := ⟨_, rfl, Box.new W1 _ _, below_new _ _⟩
  rw [hW2]
  clear hW2
  obtain ⟨G, hG⟩ : ∃ G, W1.heap.size = G := ⟨_, rfl⟩
  have HGG := Lib.hid hG
  rw [hG] at b4
  rw [hG]
  have hwG : w.heap.size < G := by rw [← hG]; exact b2.lt
  have hwG2 : w.heap.size ≠ G := by omega
  have hwG3 : w.heap.size ≤ G := by omega
  have BN : Below G W1 W2 := by rw [← hG]; exact hb
  replace b2 := b2.next hb
  replace B := B.trans (hb.mono B.size)
  clear hb hG
  go_loopw [5] (fun iv wr => ∃ (k : Nat) (wq : World) (a b : Int), wq = wr ∧ k ≤ m.length ∧ iv = .int .i64 (k : Int) ∧ Hid (firstM (m.take k) = (a, b)) ∧ Box wr G [.int .i64 a, .int .i64 b] ∧ Box wr w.heap.size [.int .i64 0, .int .i64 0] ∧ Below w.heap.size w wr ∧ Below G W1 wr) (fun iv _ => m.length - (intOf iv).toNat)
  case atStart => exact ⟨0, _, 0, 0, rfl, Nat.zero_le _, rfl, Lib.hid rfl, b4, b2, B, BN⟩
  case round =>
    clear b4 b2 B BN
    obtain ⟨k, wr, a, b, rfl, hk, rfl, HA, b4, b2, B, BN⟩ := hrel
    by_cases hlt : k < m.length
    · have hd : decide (k < m.length) = true := by simpa using hlt
      have hi : (k : Int) < (m.length : Int) := by omega
      have hge : (0 : Int) ≤ (k : Int) := by omega
      obtain ⟨g, off, rfl, hbn, hc0, hc1⟩ := HP.out k hlt
      have hbG : g < G := by rw [← HGG.out]; exact hbn
      have k0 := (BN.cell (p := ⟨g, off + k * 2, none⟩) hbG).trans hc0
      have k1 := (BN.cell (p := ⟨g, off + k * 2 + 1, none⟩) hbG).trans hc1
      have hfs := firstM_snoc (m.take k) m[k]
      rw [← List.take_succ_eq_append_getElem hlt, HA.out] at hfs
      have HFS := Lib.hid hfs
      obtain ⟨⟨x, y⟩, hb⟩ : ∃ q, m[k] = q := ⟨_, rfl⟩
      rw [hb] at k0 k1 HFS
      clear hb hc0 hc1 hfs
      by_cases hz : k = 0
      · subst hz
        have HA2 : Hid (firstM (m.take (0 + 1)) = (x, y)) := Lib.hid (by rw [HFS.out, if_pos (by simp)])
        have s0 := b4.c 0 _ rfl
        have s1 := b4.c 1 _ rfl
        have g0 := b4.f 0 (by simp)
        have g1 := b4.f 1 (by simp)
        have hz0 : (((0 : Nat) : Int) == 0) = true := rfl
        simp only [Nat.zero_mul, Nat.add_zero] at k0 k1
        go_wp2_with fail
        go_quiet (fail)
        have b4' : Box (wr.drewN nq) G [.int .i64 a, .int .i64 b] := b4.keep rfl
        have b2' : Box (wr.drewN nq) w.heap.size [.int .i64 0, .int .i64 0] := b2.keep rfl
        have B' : Below w.heap.size w (wr.drewN nq) := B.trans ⟨rfl, rfl, rfl, Nat.le_refl _, fun _ _ => rfl⟩
        have BN' : Below G W1 (wr.drewN nq) := BN.trans ⟨rfl, rfl, rfl, Nat.le_refl _, fun _ _ => rfl⟩
        have c0 : (wr.drewN nq).cell? ⟨g, off, none⟩ = _ := k0
        have c1 : (wr.drewN nq).cell? ⟨g, off + 1, none⟩ = _ := k1
        obtain ⟨wz, hwz⟩ : ∃ wz, wr.drewN nq = wz := ⟨_, rfl⟩
        rw [hwz] at b4' b2' B' BN' c0 c1
        rw [hwz]
        clear hwz b4 b2 B BN k0 k1 s0 s1 g0 g1
        have b4 := b4'
        have b2 := b2'
        have B := B'
        have BN := BN'
        clear b4' b2' B' BN'
        have s0 := b4.c 0 _ rfl
        have s1 := b4.c 1 _ rfl
        have g0 := b4.f 0 (by simp)
        have g1 := b4.f 1 (by simp)
        have HBX := Lib.hid (b4.two (.int .i64 x) (.int .i64 y))
        have HB2 := Lib.hid (b2.aside hwG2 (.int .i64 x) (.int .i64 y))
        have HB := Lib.hid ((B.setCell (p := ⟨G, 0, none⟩) hwG3 (.int .i64 x)).setCell (p := ⟨G, 1, none⟩) hwG3 (.int .i64 y))
        have HBN := Lib.hid ((BN.setCell (p := ⟨G, 0, none⟩) (Nat.le_refl G) (.int .i64 x)).setCell (p := ⟨G, 1, none⟩) (Nat.le_refl G) (.int .i64 y))
        clear b4 b2 B BN
        go_wp2
        go_roundw
        case rel => exact ⟨0 + 1, _, x, y, rfl, by omega, by go_num, HA2, HBX.out, HB2.out, HB.out, HBN.out⟩
        case measure => simp [intOf]; omega
      · have hk0 : ((k : Int) == 0) = false := beq_eq_false_iff_ne.2 (by omega)
        have hne : m.take k ≠ [] := by
          intro h
          have h2 : (m.take k).length = k := by rw [List.length_take]; omega
          rw [h] at h2
          exact hz h2.symm
        have hgw : g < wr.heap.size := by have := b4.lt; omega
        have hGs : G ≤ wr.heap.size := Nat.le_of_lt b4.lt
        cases hc : lessM x y a b
        · have HC := Lib.hid hc
          have HA2 : Hid (firstM (m.take (k + 1)) = (a, b)) := Lib.hid (by rw [HFS.out, if_neg hne]; simp [hc])
          clear hc hne HFS hz
          go_wp2_with fail
          refine wp_region_results (fun r i => ([.int .i64 (k : Int), .bool false, .bool false, .slice (some ⟨g, off, none⟩) m.length cap, .int .i64 (k : Int), .pointer (some ⟨g, off + k * 2, none⟩), .agg #[.int .i64 x, .int .i64 y], .agg #[.int .i64 a, .int .i64 b], .bool false, .bool false] : List Value).getD i undef) [8] [0, 0, 0, 0, 0, 0, 0, 0, 0, 1] (fun r q w' => (Below wr.heap.size wr w')) (by kernel_rfl) (by kernel_rfl) (fun r => ⟨rfl, rfl, rfl, Nat.le_refl _, fun _ _ => rfl⟩) ?_ ?_
          · refine ObsR_of_ends (by kernel_rfl) ?_
            intro r Fr hEA
            refine ⟨?_, ?_, ?_, ?_, ?_, ?_, ?_, ?_, ?_, ?_, trivial⟩
            · exact obR_move _ rfl (want_none rfl) (by kernel_rfl) (eval_out hEA (d := 5) (by kernel_rfl))
            · refine obR_val (want_none rfl) (by kernel_rfl) (fun ph w' hp hpm hw => ?_)
              have e14 : Fr.tmps[14]? = some (.int .i64 (k : Int)) := hEA.dst 0 _ 14 rfl rfl; simp [execOp, e14, hk0, go_sem]
            · exact obR_move _ rfl (want_none rfl) (by kernel_rfl) (eval_dst hEA (j := 1) rfl rfl)
            · exact obR_move _ rfl (want_is hEA (g := 2) (x := false) (b := false) rfl rfl rfl rfl) (by kernel_rfl) (eval_out hEA (d := 3) (by kernel_rfl))
            · exact obR_move _ rfl (want_is hEA (g := 2) (x := false) (b := false) rfl rfl rfl rfl) (by kernel_rfl) (eval_out hEA (d := 5) (by kernel_rfl))
            · refine obR_val (want_is hEA (g := 2) (x := false) (b := false) rfl rfl rfl rfl) (by kernel_rfl) (fun ph w' hp hpm hw => ?_)
              have e17 : Fr.tmps[17]? = some (.slice (some ⟨g, off, none⟩) m.length cap) := hEA.dst 3 _ 17 rfl rfl; have e18 : Fr.tmps[18]? = some (.int .i64 (k : Int)) := hEA.dst 4 _ 18 rfl rfl; simp [execOp, e17, e18, hi, hge, go_sem]
            · refine obR_val (want_is hEA (g := 2) (x := false) (b := false) rfl rfl rfl rfl) (by kernel_rfl) (fun ph w' hp hpm hw => ?_)
              have hc0 := (hw.cell (p := ⟨g, off + k * 2, none⟩) hgw).trans k0
              have hc1 := (hw.cell (p := ⟨g, off + k * 2 + 1, none⟩) hgw).trans k1
              have e19 : Fr.tmps[19]? = some (.pointer (some ⟨g, off + k * 2, none⟩)) := hEA.dst 5 _ 19 rfl rfl; simp [execOp, e19, hc0, hc1, go_sem]
            · refine obR_val (want_is hEA (g := 2) (x := false) (b := false) rfl rfl rfl rfl) (by kernel_rfl) (fun ph w' hp hpm hw => ?_)
              have hc0 := (hw.cell (p := ⟨G, 0, none⟩) b4.lt).trans (b4.c 0 _ rfl)
              have hc1 := (hw.cell (p := ⟨G, 1, none⟩) b4.lt).trans (b4.c 1 _ rfl)
              have e4 : Fr.tmps[4]? = some (.pointer (some ⟨G, 0, none⟩)) := at_out hEA (d := 4) (by kernel_rfl); simp [execOp, e4, hc0, hc1, go_sem]
            · refine obR_call (q := 0) (f := 51) (args := #[.agg #[.int .i64 x, .int .i64 y], .agg #[.int .i64 a, .int .i64 b]]) (want_is hEA (g := 2) (x := false) (b := false) rfl rfl rfl rfl) (by kernel_rfl) (fun w' => by have e20 : Fr.tmps[20]? = some (.agg #[.int .i64 x, .int .i64 y]) := hEA.dst 6 _ 20 rfl rfl; have e21 : Fr.tmps[21]? = some (.agg #[.int .i64 a, .int .i64 b]) := hEA.dst 7 _ 21 rfl rfl; simp [e20, e21, go_sem]) ?_
              intro w' hw
              refine ((show Calls _ _ _ _ (fun e W' => e = .returned (.bool false) ∧ Below w'.heap.size w' W') from by have := refLess_any x y a b w'; rwa [HC.out] at this)).mono ?_
              rintro e w2 ⟨rfl, hb⟩
              exact ⟨_, rfl, fun r' hr hv => ⟨rfl, hw.trans (hb.mono hw.size)⟩⟩
            · refine obR_val (want_none rfl) (by kernel_rfl) (fun ph w' hp hpm hw => ?_)
              have e16 : Fr.tmps[16]? = some (.bool false) := hEA.dst 2 _ 16 rfl rfl; have e22 : Fr.tmps[22]? = some (.bool false) := hEA.dst 8 _ 22 rfl rfl; simp [execOp, e16, e22, go_sem]
          · intro r w' hw
            simp only [laid, Act.put, List.setIfInBounds_toArray, List.set_cons_succ, List.set_cons_zero, List.getD_cons_succ, List.getD_cons_zero, Nat.zero_add, Nat.reduceAdd]
            obtain ⟨wz, hwz⟩ : ∃ wz, w' = wz := ⟨_, rfl⟩
            rw [hwz] at hw
            rw [hwz]
            have c0 := (hw.cell (p := ⟨g, off + k * 2, none⟩) hgw).trans k0
            have c1 := (hw.cell (p := ⟨g, off + k * 2 + 1, none⟩) hgw).trans k1
            replace b4 := b4.next hw
            replace b2 := b2.next hw
            replace B := B.trans (hw.mono B.size)
            replace BN := BN.trans (hw.mono hGs)
            clear hw hwz k0 k1
            clear c0 c1
            go_wp2
            go_roundw
            case rel => exact ⟨k + 1, _, a, b, rfl, by omega, by go_num, HA2, b4, b2, B, BN⟩
            case measure => simp [intOf]; omega
        · have HC := Lib.hid hc
          have HA2 : Hid (firstM (m.take (k + 1)) = (x, y)) := Lib.hid (by rw [HFS.out, if_neg hne]; simp [hc])
          clear hc hne HFS hz
          go_wp2_with fail
          refine wp_region_results (fun r i => ([.int .i64 (k : Int), .bool false, .bool false, .slice (some ⟨g, off, none⟩) m.length cap, .int .i64 (k : Int), .pointer (some ⟨g, off + k * 2, none⟩), .agg #[.int .i64 x, .int .i64 y], .agg #[.int .i64 a, .int .i64 b], .bool true, .bool true] : List Value).getD i undef) [8] [0, 0, 0, 0, 0, 0, 0, 0, 0, 1] (fun r q w' => (Below wr.heap.size wr w')) (by kernel_rfl) (by kernel_rfl) (fun r => ⟨rfl, rfl, rfl, Nat.le_refl _, fun _ _ => rfl⟩) ?_ ?_
          · refine ObsR_of_ends (by kernel_rfl) ?_
            intro r Fr hEA
            refine ⟨?_, ?_, ?_, ?_, ?_, ?_, ?_, ?_, ?_, ?_, trivial⟩
            · exact obR_move _ rfl (want_none rfl) (by kernel_rfl) (eval_out hEA (d := 5) (by kernel_rfl))
            · refine obR_val (want_none rfl) (by kernel_rfl) (fun ph w' hp hpm hw => ?_)
              have e14 : Fr.tmps[14]? = some (.int .i64 (k : Int)) := hEA.dst 0 _ 14 rfl rfl; simp [execOp, e14, hk0, go_sem]
            · exact obR_move _ rfl (want_none rfl) (by kernel_rfl) (eval_dst hEA (j := 1) rfl rfl)
            · exact obR_move _ rfl (want_is hEA (g := 2) (x := false) (b := false) rfl rfl rfl rfl) (by kernel_rfl) (eval_out hEA (d := 3) (by kernel_rfl))
            · exact obR_move _ rfl (want_is hEA (g := 2) (x := false) (b := false) rfl rfl rfl rfl) (by kernel_rfl) (eval_out hEA (d := 5) (by kernel_rfl))
            · refine obR_val (want_is hEA (g := 2) (x := false) (b := false) rfl rfl rfl rfl) (by kernel_rfl) (fun ph w' hp hpm hw => ?_)
              have e17 : Fr.tmps[17]? = some (.slice (some ⟨g, off, none⟩) m.length cap) := hEA.dst 3 _ 17 rfl rfl; have e18 : Fr.tmps[18]? = some (.int .i64 (k : Int)) := hEA.dst 4 _ 18 rfl rfl; simp [execOp, e17, e18, hi, hge, go_sem]
            · refine obR_val (want_is hEA (g := 2) (x := false) (b := false) rfl rfl rfl rfl) (by kernel_rfl) (fun ph w' hp hpm hw => ?_)
              have hc0 := (hw.cell (p := ⟨g, off + k * 2, none⟩) hgw).trans k0
              have hc1 := (hw.cell (p := ⟨g, off + k * 2 + 1, none⟩) hgw).trans k1
              have e19 : Fr.tmps[19]? = some (.pointer (some ⟨g, off + k * 2, none⟩)) := hEA.dst 5 _ 19 rfl rfl; simp [execOp, e19, hc0, hc1, go_sem]
            · refine obR_val (want_is hEA (g := 2) (x := false) (b := false) rfl rfl rfl rfl) (by kernel_rfl) (fun ph w' hp hpm hw => ?_)
              have hc0 := (hw.cell (p := ⟨G, 0, none⟩) b4.lt).trans (b4.c 0 _ rfl)
              have hc1 := (hw.cell (p := ⟨G, 1, none⟩) b4.lt).trans (b4.c 1 _ rfl)
              have e4 : Fr.tmps[4]? = some (.pointer (some ⟨G, 0, none⟩)) := at_out hEA (d := 4) (by kernel_rfl); simp [execOp, e4, hc0, hc1, go_sem]
            · refine obR_call (q := 0) (f := 51) (args := #[.agg #[.int .i64 x, .int .i64 y], .agg #[.int .i64 a, .int .i64 b]]) (want_is hEA (g := 2) (x := false) (b := false) rfl rfl rfl rfl) (by kernel_rfl) (fun w' => by have e20 : Fr.tmps[20]? = some (.agg #[.int .i64 x, .int .i64 y]) := hEA.dst 6 _ 20 rfl rfl; have e21 : Fr.tmps[21]? = some (.agg #[.int .i64 a, .int .i64 b]) := hEA.dst 7 _ 21 rfl rfl; simp [e20, e21, go_sem]) ?_
              intro w' hw
              refine ((show Calls _ _ _ _ (fun e W' => e = .returned (.bool true) ∧ Below w'.heap.size w' W') from by have := refLess_any x y a b w'; rwa [HC.out] at this)).mono ?_
              rintro e w2 ⟨rfl, hb⟩
              exact ⟨_, rfl, fun r' hr hv => ⟨rfl, hw.trans (hb.mono hw.size)⟩⟩
            · refine obR_val (want_none rfl) (by kernel_rfl) (fun ph w' hp hpm hw => ?_)
              have e16 : Fr.tmps[16]? = some (.bool false) := hEA.dst 2 _ 16 rfl rfl; have e22 : Fr.tmps[22]? = some (.bool true) := hEA.dst 8 _ 22 rfl rfl; simp [execOp, e16, e22, go_sem]
          · intro r w' hw
            simp only [laid, Act.put, List.setIfInBounds_toArray, List.set_cons_succ, List.set_cons_zero, List.getD_cons_succ, List.getD_cons_zero, Nat.zero_add, Nat.reduceAdd]
            obtain ⟨wz, hwz⟩ : ∃ wz, w' = wz := ⟨_, rfl⟩
            rw [hwz] at hw
            rw [hwz]
            have c0 := (hw.cell (p := ⟨g, off + k * 2, none⟩) hgw).trans k0
            have c1 := (hw.cell (p := ⟨g, off + k * 2 + 1, none⟩) hgw).trans k1
            replace b4 := b4.next hw
            replace b2 := b2.next hw
            replace B := B.trans (hw.mono B.size)
            replace BN := BN.trans (hw.mono hGs)
            clear hw hwz k0 k1
            have s0 := b4.c 0 _ rfl
            have s1 := b4.c 1 _ rfl
            have g0 := b4.f 0 (by simp)
            have g1 := b4.f 1 (by simp)
            have HBX := Lib.hid (b4.two (.int .i64 x) (.int .i64 y))
            have HB2 := Lib.hid (b2.aside hwG2 (.int .i64 x) (.int .i64 y))
            have HB := Lib.hid ((B.setCell (p := ⟨G, 0, none⟩) hwG3 (.int .i64 x)).setCell (p := ⟨G, 1, none⟩) hwG3 (.int .i64 y))
            have HBN := Lib.hid ((BN.setCell (p := ⟨G, 0, none⟩) (Nat.le_refl G) (.int .i64 x)).setCell (p := ⟨G, 1, none⟩) (Nat.le_refl G) (.int .i64 y))
            clear b4 b2 B BN
            go_wp2
            go_roundw
            case rel => exact ⟨k + 1, _, x, y, rfl, by omega, by go_num, HA2, HBX.out, HB2.out, HB.out, HBN.out⟩
            case measure => simp [intOf]; omega
    · have hd : decide (k < m.length) = false := by simpa using hlt
      have hkk : m.take k = m := List.take_of_length_le (by omega)
      have HR : Hid (firstM m = (a, b)) := Lib.hid (by rw [← hkk]; exact HA.out)
      have q0 := b4.c 0 _ rfl
      have q1 := b4.c 1 _ rfl
      have r0 := b2.c 0 _ rfl
      have r1 := b2.c 1 _ rfl
      have g0 := b2.f 0 (by decide)
      have g1 := b2.f 1 (by decide)
      have HB := Lib.hid B
      clear b4 b2 B BN hkk HA
      go_wp2
      (try simp only [Exit.inBlock, Exit.then]); refine bodyPost_ret (v := .agg #[.int .i64 a, .int .i64 b]) (by simp [results, Try.results52, go_sem, r0, r1]) rfl ?_
      rw [HMM.out, HR.out]
      exact ⟨rfl, (HB.out.setCell (p := ⟨w.heap.size, 0, none⟩) (Nat.le_refl _) _).setCell (p := ⟨w.heap.size, 1, none⟩) (Nat.le_refl _) _⟩

end Go.Proofs.Ytokhaldnakjiaaa

/- Which of two trees is ahead, by the document; slices of trees. Condition: the slices read as trees' spots, or nothing's, of at most 100,000. -/
namespace Go.Proofs.Ytokhaldnakjiaaa
open Go Go.RowKit
set_option linter.unusedVariables false

set_option maxRecDepth 100000 in
set_option maxHeartbeats 8000000 in
theorem refAhead_any (v u : Value) (x y : Option Tr) (w : World) (h : Spots w.heap.size w (spo x) [v]) (h' : Spots w.heap.size w (spo y) [u]) (hn : (spo x).length ≤ 100000) (hn' : (spo y).length ≤ 100000) :
    Calls Try.prog 31 #[v, u] w fun e W' => e = .returned (.bool (aheadO x y)) ∧ Below w.heap.size w W' := by
  have HX := Lib.hid h
  have HY := Lib.hid h'
  clear h h'
  go_enter Try.func31, Try.ntmps31
  go_wp2_with fail
  refine (refLeaves_any v (spo x) w HX.out (by omega)).mono ?_
  rintro e W1 ⟨va, rfl, hva, B⟩
  replace HX := Lib.hid (keeps_spots _ _ _ _ _ _ HX.out B B.size)
  replace HY := Lib.hid (keeps_spots _ _ _ _ _ _ HY.out B B.size)
  obtain ⟨n, hnn⟩ : ∃ n, (lvO x).length = n := ⟨_, rfl⟩
  obtain ⟨A, ca, rfl, -, hca⟩ := mems_len hva n hnn
  clear hva
  go_wp2_with fail
  refine (refLeaves_any u (spo y) W1 HY.out (by omega)).mono ?_
  rintro e W2 ⟨vb, rfl, hvb, hb⟩
  replace HX := Lib.hid (keeps_spots _ _ _ _ _ _ HX.out hb hb.size)
  replace HY := Lib.hid (keeps_spots _ _ _ _ _ _ HY.out hb hb.size)
  replace B := B.trans (hb.mono B.size)
  obtain ⟨k, hkk⟩ : ∃ k, (lvO y).length = k := ⟨_, rfl⟩
  obtain ⟨A', cb, rfl, -, hcb⟩ := mems_len hvb k hkk
  clear hvb hb
  obtain ⟨⟨a1, a2⟩, ha⟩ : ∃ q, firstM (lvO x) = q := ⟨_, rfl⟩
  obtain ⟨⟨b1, b2⟩, hb⟩ : ∃ q, firstM (lvO y) = q := ⟨_, rfl⟩
  have HE : Hid (aheadO x y = (decide (k < n) || (decide (n = k) && lessM a1 a2 b1 b2))) := Lib.hid (by unfold aheadO; rw [hnn, hkk, ha, hb])
  have HFA : Hid (∀ w, Spots w.heap.size w (spo x) [v] → Calls Try.prog 52 #[v] w fun e W' => e = .returned (vM a1 a2) ∧ Below w.heap.size w W') := Lib.hid fun w h => by
    have := refFirst_any v (spo x) w h hn
    have e : firstM (lv (spo x)) = (a1, a2) := ha
    rwa [e] at this
  have HFB : Hid (∀ w, Spots w.heap.size w (spo y) [u] → Calls Try.prog 52 #[u] w fun e W' => e = .returned (vM b1 b2) ∧ Below w.heap.size w W') := Lib.hid fun w h => by
    have := refFirst_any u (spo y) w h hn'
    have e : firstM (lv (spo y)) = (b1, b2) := hb
    rwa [e] at this
  clear hnn hkk ha hb
  by_cases h1 : k < n
  · have hd : decide (k < n) = true := decide_eq_true h1
    have HR : Hid (aheadO x y = true) := Lib.hid (by rw [HE.out, hd]; rfl)
    go_wp2
    go_ret
    exact ⟨rbool HR.out.symm, B⟩
  · have hd : decide (k < n) = false := decide_eq_false h1
    by_cases h2 : n = k
    · subst h2
      have HR : Hid (aheadO x y = lessM a1 a2 b1 b2) := Lib.hid (by rw [HE.out, hd]; simp)
      go_wp2_with fail
      refine (HFA.out W2 HX.out).mono ?_
      rintro e W3 ⟨rfl, hb⟩
      replace HY := Lib.hid (keeps_spots _ _ _ _ _ _ HY.out hb hb.size)
      replace B := B.trans (hb.mono B.size)
      clear hb
      go_wp2_with fail
      refine (HFB.out W3 HY.out).mono ?_
      rintro e W4 ⟨rfl, hb⟩
      replace B := B.trans (hb.mono B.size)
      clear hb
      go_wp2_with fail
      refine (refLess_any a1 a2 b1 b2 W4).mono ?_
      rintro e W5 ⟨rfl, hb⟩
      replace B := B.trans (hb.mono B.size)
      go_wp2
      go_ret
      exact ⟨rbool HR.out.symm, B⟩
    · have hd2 : ((n : Int) == (k : Int)) = false := beq_eq_false_iff_ne.2 (by omega)
      have HR : Hid (aheadO x y = false) := Lib.hid (by rw [HE.out, hd, decide_eq_false h2]; rfl)
      go_wp2
      go_ret
      exact ⟨rbool HR.out.symm, B⟩

/-- A slice of slices of spots, of any parameter. -/
theorem opens_lists : Opens Try.prog 22 Lists := opens_slice Try.underlying22 (by kernel_rfl) (by decide) opens_spots
/-- Heads of slices, as cells. -/
abbrev Hd := Option Addr × Nat × Nat
abbrev hC (h : Hd) : List Value := [.slice h.1 h.2.1 h.2.2]
def IsH : Rd Hd := fun _ _ h cs => cs = hC h
theorem keeps_H : Keeps IsH := fun _ _ _ _ _ _ h _ _ => h
abbrev Heads : Rd (List Hd) := SliceOf 1 IsH
theorem keeps_heads : Keeps Heads := keeps_slice keeps_H
/-- Heads that each read as a tree's spots, or nothing's. -/
def Each (n : Nat) (w : World) (hs : List Hd) (xs : List (Option Tr)) : Prop := hs.length = xs.length ∧ ∀ (i : Nat) (h : Hd) (x : Option Tr), hs[i]? = some h → xs[i]? = some x → Spots n w (spo x) [.slice h.1 h.2.1 h.2.2]
theorem Each.keep {n m : Nat} {w w' : World} {hs : List Hd} {xs : List (Option Tr)} (h : Each n w hs xs) (hb : Below n w w') (hm : n ≤ m) : Each m w' hs xs :=
  ⟨h.1, fun i a x h1 h2 => keeps_spots _ _ _ _ _ _ (h.2 i a x h1 h2) hb hm⟩
theorem Each.nil (n : Nat) (w : World) : Each n w [] [] := ⟨rfl, fun i a x h1 _ => by simp at h1⟩
theorem Each.append {n : Nat} {w : World} {hs hs' : List Hd} {xs xs' : List (Option Tr)} (h : Each n w hs xs) (h' : Each n w hs' xs') : Each n w (hs ++ hs') (xs ++ xs') := by
  refine ⟨by simp [h.1, h'.1], fun i a x h1 h2 => ?_⟩
  by_cases hi : i < hs.length
  · rw [List.getElem?_append_left hi] at h1
    rw [List.getElem?_append_left (by rw [← h.1]; exact hi)] at h2
    exact h.2 i a x h1 h2
  · rw [List.getElem?_append_right (by omega)] at h1
    rw [List.getElem?_append_right (by rw [← h.1]; omega), ← h.1] at h2
    exact h'.2 _ a x h1 h2
theorem Each.take {n : Nat} {w : World} {hs : List Hd} {xs : List (Option Tr)} (h : Each n w hs xs) (k : Nat) : Each n w (hs.take k) (xs.take k) := by
  refine ⟨by simp [h.1], fun i a x h1 h2 => ?_⟩
  rw [List.getElem?_take] at h1 h2
  by_cases hi : i < k
  · rw [if_pos hi] at h1 h2
    exact h.2 i a x h1 h2
  · rw [if_neg hi] at h1; cases h1
theorem Each.drop {n : Nat} {w : World} {hs : List Hd} {xs : List (Option Tr)} (h : Each n w hs xs) (k : Nat) : Each n w (hs.drop k) (xs.drop k) := by
  refine ⟨by simp [h.1], fun i a x h1 h2 => ?_⟩
  rw [List.getElem?_drop] at h1 h2
  exact h.2 _ a x h1 h2
theorem Each.one {n : Nat} {w : World} {h : Hd} {x : Option Tr} (hx : Spots n w (spo x) [.slice h.1 h.2.1 h.2.2]) : Each n w [h] [x] := by
  refine ⟨rfl, fun i a y h1 h2 => ?_⟩
  cases i with
  | zero =>
    simp at h1 h2
    subst h1 h2
    exact hx
  | succ i => simp at h1
theorem oneH (h : Hd) : ∀ u ∈ hC h, u.oneCell' = true := by
  intro u hu
  simp at hu
  subst hu
  rfl
abbrev infoHt : Prop := (Try.prog.info? 24).map (fun i => (i.zero, i.size, i.bytes)) = some (some (.slice none 0 0), 1, 24)
theorem infoH : infoHt := by unfold infoHt; kernel_rfl
/-- append onto heads of one's own. -/
theorem append_heads {ops : Array Oper} {rest : List Oper} {o : Oper} {a : Act} {Q : Exit → Act → World → Prop} (w : World) (hw : Region.wanted o (yielded ops a.tmps) = true) (so x : Operand)
    (ho : o.op = .call { callee := .builtin .append, args := #[so, x], argTypes := #[22, 22] })
    (base : Nat) (v : Value) (n : Nat) (ys : List Value) (hv : a.eval so = v) (hown : w.ownsRow base 24 1 v n ys)
    (n₀ : Nat) (V : Value) (xs : List Hd) (hx : a.eval x = V) (hL : Heads n₀ w xs [V]) (hb : n + xs.length ≤ 4000000) (hbase : base ≤ w.heap.size)
    (h : ∀ v' w', w'.ownsRow base 24 1 v' (n + xs.length) (ys ++ xs.flatMap hC) → w.grownBy w' v.ownBlock → wpList Try.prog ops Q rest (a.put o.dst v') w') : wpList Try.prog ops Q (o :: rest) a w :=
  append_slice (enc := hC) (s := 1) (R := IsH) (fun _ _ _ _ h => h) (by decide) (fun _ => rfl) oneH Try.underlying22 infoH rfl w hw so x ho base v n ys hv hown n₀ V xs hx hL (Nat.le_trans hb (by decide)) (by omega) hbase h
theorem own_heads {w : World} {base : Nat} {v : Value} {xs : List Hd} (h : w.ownsRow base 24 1 v xs.length (xs.flatMap hC)) : Heads w.heap.size w xs [v] := own_reads (enc := hC) (s := 1) (R := IsH) (fun _ _ _ => rfl) (by decide) (fun _ => rfl) h
theorem heads_at {n : Nat} {w : World} {hs : List Hd} {v : Value} (h : Heads n w hs [v]) :
    ∃ A cap, v = .slice A hs.length cap ∧ hs.length ≤ cap ∧ cap ≤ maxLen ∧ ∀ i, (hi : i < hs.length) → ∃ b off, A = some ⟨b, off, none⟩ ∧ b < n ∧ w.cell? ⟨b, off + i, none⟩ = some (.slice hs[i].1 hs[i].2.1 hs[i].2.2) := by
  obtain ⟨A, cap, e, h1, h2, _, h3⟩ := h
  simp only [List.cons.injEq, and_true] at e
  refine ⟨A, cap, e, h1, h2, fun i hi => ?_⟩
  obtain ⟨b, off, rfl, hb, hc⟩ := h3 (by omega)
  obtain ⟨es, hl, hcell, hr⟩ := hc i hi
  have hr : es = _ := hr
  subst hr
  refine ⟨b, off, rfl, hb, ?_⟩
  have := hcell 0 (by omega)
  simpa using this
theorem one_head (w : World) (h : Hd) (t : TypeId) (g : Nat) (hg : w.heap.size = g) : Heads (g + 1) (w.alloc (.cells #[.slice h.1 h.2.1 h.2.2] t)) [h] [.slice (some ⟨g, 0, none⟩) 1 1] := by
  subst hg
  exact ⟨some ⟨w.heap.size, 0, none⟩, 1, rfl, Nat.le_refl _, by decide, (fun h => by cases h), fun _ => ⟨w.heap.size, 0, rfl, by omega, fun i hi => ⟨hC h, rfl, fun j hj => by
    have : i = 0 := by simpa using hi
    subst this
    have : j = 0 := by omega
    subst this
    simp, by
    have : i = 0 := by simpa using hi
    subst this
    rfl⟩⟩⟩
/-- A slice of trees: its heads, and what each reads as. -/
theorem heads_of_lists {n : Nat} {w : World} {xss : List (List Sp)} {v : Value} (h : Lists n w xss [v]) : ∃ hs : List Hd, Heads n w hs [v] ∧ hs.length = xss.length ∧ ∀ (i : Nat) (q : Hd) (l : List Sp), hs[i]? = some q → xss[i]? = some l → Spots n w l [.slice q.1 q.2.1 q.2.2] := by
  obtain ⟨A, cap, e, h1, h2, h0, h3⟩ := id h
  simp only [List.cons.injEq, and_true] at e
  subst e
  have each : ∀ i, i < xss.length → ∃ q : Hd, (∃ b off, A = some ⟨b, off, none⟩ ∧ b < n ∧ w.cell? ⟨b, off + i, none⟩ = some (.slice q.1 q.2.1 q.2.2)) ∧ ∀ l, xss[i]? = some l → Spots n w l [.slice q.1 q.2.1 q.2.2] := fun i hi => by
    obtain ⟨A', cap', e', _, _, hp⟩ := lists_at h
    simp only [Value.slice.injEq] at e'
    obtain ⟨rfl, -, rfl⟩ := e'
    obtain ⟨b, off, u, rfl, hb, hc, hu⟩ := hp i hi
    obtain ⟨A2, c2, rfl, _, _, _⟩ := spots_at hu
    refine ⟨(A2, xss[i].length, c2), ⟨b, off, rfl, hb, hc⟩, fun l hl => ?_⟩
    have : xss[i] = l := by rw [List.getElem?_eq_getElem hi] at hl; simpa using hl
    subst this
    exact hu
  obtain ⟨hs, hlen, hR⟩ := list_of xss.length (fun i q => (∃ b off, A = some ⟨b, off, none⟩ ∧ b < n ∧ w.cell? ⟨b, off + i, none⟩ = some (.slice (q : Hd).1 q.2.1 q.2.2)) ∧ ∀ l, xss[i]? = some l → Spots n w l [.slice q.1 q.2.1 q.2.2]) each
  refine ⟨hs, ⟨A, cap, by rw [hlen], by omega, h2, h0, fun hp => ?_⟩, hlen, fun i q l hq hl => ?_⟩
  · obtain ⟨⟨b, off, rfl, hb, _⟩, _⟩ := hR 0 hp
    refine ⟨b, off, rfl, hb, fun i hi => ⟨hC hs[i], rfl, fun j hj => ?_, rfl⟩⟩
    have : j = 0 := by omega
    subst this
    obtain ⟨⟨b', off', e, hb', hc⟩, _⟩ := hR i hi
    simp only [Option.some.injEq, Addr.mk.injEq, and_true] at e
    obtain ⟨rfl, rfl⟩ := e
    simpa using hc
  · have hi : i < hs.length := by
      rcases Nat.lt_or_ge i hs.length with h' | h'
      · exact h'
      · rw [List.getElem?_eq_none h'] at hq; cases hq
    have : hs[i] = q := by rw [List.getElem?_eq_getElem hi] at hq; simpa using hq
    subst this
    exact (hR i hi).2 l hl

end Go.Proofs.Ytokhaldnakjiaaa
