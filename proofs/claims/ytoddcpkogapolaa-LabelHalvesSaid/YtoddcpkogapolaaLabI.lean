/- Where a member's leaf lies first, and the steps to it and to a label's spot, plainly. Of no program. No condition. -/
import Derived.Test.YtoddcpkogapolaaLabP
namespace Go.Proofs.Ytoddcpkogapolaa
open Go.RowKit
set_option linter.unusedVariables false

/-- Where a spot is there first, of those from the k-th on. -/
def ixF (s : Sp) : Nat → List Sp → Int
  | _, [] => -1
  | k, x :: xs => if x = s then (k : Int) else ixF s (k + 1) xs
theorem ixF_step (s : Sp) (xs : List Sp) (k : Nat) (h : k < xs.length) : ixF s k (xs.drop k) = if xs[k] = s then (k : Int) else ixF s (k + 1) (xs.drop (k + 1)) := by
  rw [List.drop_eq_getElem_cons h, ixF]
theorem ixF_off (s : Sp) (xs : List Sp) (k : Nat) (h : xs.length ≤ k) : ixF s k (xs.drop k) = -1 := by
  rw [List.drop_of_length_le h, ixF]
/-- How many spots lie ahead of what a way leads to. -/
def pos (t : Tr) (p : List Bool) : Nat := match sub t p with
  | some x => x.1
  | none => 0
theorem ixF_flat : ∀ (t : Tr) (m : Int × Int) (k : Nat) (rest : List Sp), ixF (true, m.1, m.2) k (flat t ++ rest) = match off t m with
    | some p => ((k + pos t p : Nat) : Int)
    | none => ixF (true, m.1, m.2) (k + (flat t).length) rest
  | .leaf a b, m, k, rest => by
    show (if (true, a, b) = (true, m.1, m.2) then (k : Int) else ixF (true, m.1, m.2) (k + 1) rest) = _
    by_cases e : (a, b) = m
    · subst e
      simp [off, pos, sub]
    · have e' : ¬ (true, a, b) = (true, m.1, m.2) := fun h => e (by simp at h; exact Prod.ext h.1 h.2)
      rw [if_neg e']
      simp [off, e, flat]
  | .inner a b l r, m, k, rest => by
    have e : flat (.inner a b l r) ++ rest = (false, a, b) :: (flat l ++ (flat r ++ rest)) := by simp [flat]
    rw [e, ixF, if_neg (by simp), ixF_flat l m (k + 1) (flat r ++ rest)]
    simp only [off]
    cases hl : off l m with
    | some p =>
      obtain ⟨o, hs⟩ := off_sub l m p hl
      have e1 : pos l p = o := by simp [pos, hs]
      have e2 : pos (.inner a b l r) (false :: p) = o + 1 := by simp [pos, sub, hs]
      simp only [e1, e2]
      congr 1
      omega
    | none =>
      simp only []
      rw [ixF_flat r m]
      cases hr : off r m with
      | some p =>
        obtain ⟨o, hs⟩ := off_sub r m p hr
        have e1 : pos r p = o := by simp [pos, hs]
        have e2 : pos (.inner a b l r) (true :: p) = o + 1 + (flat l).length := by simp [pos, sub, hs]
        simp only [Option.map_some, e1, e2]
        congr 1
        omega
      | none =>
        simp only [Option.map_none, flat, List.length_cons, List.length_append]
        congr 1
        omega
theorem ixF_spo (ot : Option Tr) (m : Int × Int) : ixF (true, m.1, m.2) 0 (spo ot) = match offO ot m with
    | some p => ((pos (ot.getD (.leaf 0 0)) p : Nat) : Int)
    | none => -1 := by
  cases ot with
  | none => rfl
  | some t =>
    have := ixF_flat t m 0 []
    rw [List.append_nil] at this
    show ixF (true, m.1, m.2) 0 (flat t) = _
    rw [this]
    show _ = match off t m with | some p => _ | none => _
    cases off t m with
    | some p => simp
    | none => simp [ixF]
theorem idx_snoc (d : List Bool) (b : Bool) : idx (d ++ [b]) = 2 * idx d + (if b then 1 else 0) := by
  induction d with
  | nil => simp [idx]
  | cons c d ih =>
    simp only [List.cons_append, idx, ih, List.length_append, List.length_cons, List.length_nil]
    cases c
    · simp
    · simp only [if_true, Nat.pow_succ]; omega
/-- On the way to a member: how far one has come, what is left. -/
structure On (t : Tr) (m : Int × Int) (d q : List Bool) (o : Nat) (u : Tr) : Prop where
  here : sub t d = some (o, u)
  left : off u m = some q
theorem On.start {t : Tr} {m : Int × Int} {p : List Bool} (h : off t m = some p) : On t m [] p 0 t := ⟨sub_nil t, h⟩
theorem On.spot {t : Tr} {m : Int × Int} {d q : List Bool} {o : Nat} {u : Tr} (h : On t m d q o u) : q = [] ∨ ∃ a b l r, u = .inner a b l r := by
  cases u with
  | leaf a b =>
    have := h.left
    simp only [off] at this
    by_cases e : (a, b) = m
    · rw [if_pos e] at this
      left
      simpa using this.symm
    · rw [if_neg e] at this; cases this
  | inner a b l r => exact Or.inr ⟨a, b, l, r, rfl⟩
theorem pos_lt {u : Tr} {m : Int × Int} {q : List Bool} (h : off u m = some q) : pos u q < (flat u).length := by
  obtain ⟨o, hs⟩ := off_sub u m q h
  have := sub_le hs
  simp only [pos, hs]
  simp [flat] at this
  omega
/-- At an inner spot: which half it is, and what is then left. -/
theorem On.step {t : Tr} {m : Int × Int} {d q : List Bool} {o : Nat} {a b : Int} {l r : Tr} (h : On t m d q o (.inner a b l r)) :
    ∃ (c : Bool) (q' : List Bool), q = c :: q' ∧ decide ((o + pos (.inner a b l r) q : Nat) ≥ o + 1 + (flat l).length) = c ∧ 0 < pos (.inner a b l r) q ∧
      On t m (d ++ [c]) q' (if c then o + 1 + (flat l).length else o + 1) (if c then r else l) ∧ o + pos (.inner a b l r) q = (if c then o + 1 + (flat l).length else o + 1) + pos (if c then r else l) q' := by
  have hq := h.left
  simp only [off] at hq
  cases hl : off l m with
  | some p =>
    simp only [hl, Option.some.injEq] at hq
    subst hq
    obtain ⟨x, hs⟩ := off_sub l m p hl
    have hlt := pos_lt hl
    have e : pos (.inner a b l r) (false :: p) = pos l p + 1 := by simp [pos, sub, hs]
    refine ⟨false, p, rfl, ?_, by omega, ⟨?_, ?_⟩, ?_⟩
    · rw [e]; simp; omega
    · rw [sub_snoc, h.here]; simp
    · simpa using hl
    · rw [e]; simp; omega
  | none =>
    simp only [hl, Option.map_eq_some_iff] at hq
    obtain ⟨p, hr, rfl⟩ := hq
    obtain ⟨x, hs⟩ := off_sub r m p hr
    have e : pos (.inner a b l r) (true :: p) = pos r p + 1 + (flat l).length := by simp [pos, sub, hs]
    refine ⟨true, p, rfl, ?_, by omega, ⟨?_, ?_⟩, ?_⟩
    · rw [e]; simp; omega
    · rw [sub_snoc, h.here]; simp
    · simpa using hr
    · rw [e]; simp; omega
/-- Where a half of what begins at a spot begins. -/
def halfI (xs : List Sp) (p : Int) (right : Bool) : Int := if p < 0 then -1 else if (xs.getD p.toNat (true, 0, 0)).1 then -1 else if right then endI xs (p + 1) else p + 1
theorem halfI_leaf {t : Tr} {d : List Bool} {o : Nat} {a b : Int} (h : sub t d = some (o, .leaf a b)) (c : Bool) : halfI (flat t) (o : Int) c = -1 := by
  obtain ⟨x, r, e, rfl⟩ := sub_drop t d o _ h
  have hg : (flat t).getD x.length (true, 0, 0) = (true, a, b) := by rw [e]; simp [flat]
  unfold halfI
  rw [if_neg (by omega), Int.toNat_natCast, hg]
  rfl
theorem halfI_inner {t : Tr} {d : List Bool} {o : Nat} {a b : Int} {l r : Tr} (h : sub t d = some (o, .inner a b l r)) (c : Bool) : halfI (flat t) (o : Int) c = ((if c then o + 1 + (flat l).length else o + 1 : Nat) : Int) := by
  obtain ⟨x, y, e, rfl⟩ := sub_drop t d o _ h
  have hg : (flat t).getD x.length (true, 0, 0) = (false, a, b) := by rw [e]; simp [flat]
  unfold halfI
  rw [if_neg (by omega), Int.toNat_natCast, hg]
  cases c
  · simp
  · have hd : (flat t).drop (x.length + 1) = flat l ++ (flat r ++ y) := by
      rw [e]
      have : x ++ (flat (.inner a b l r) ++ y) = (x ++ [(false, a, b)]) ++ (flat l ++ (flat r ++ y)) := by simp [flat]
      rw [this, show x.length + 1 = (x ++ [(false, a, b)]).length by simp, List.drop_left]
    have := endI_part (flat t) (x.length + 1) l (flat r ++ y) hd
    simp only [if_true, Bool.false_eq_true, if_false]
    rw [← this]
    congr 1
theorem atO_root (ot : Option Tr) : atO ot 0 0 = if (spo ot).length = 0 then -1 else 0 := by
  have h := atO_nat ot (k := 0) (i := 0) (by decide) (by decide)
  have h : atO ot 0 0 = _ := h
  rw [h]
  cases ot with
  | none => rfl
  | some t =>
    have := flat_pos t
    have e : subO (some t) (path 0 0) = some (0, t) := sub_nil t
    have : ¬ (spo (some t)).length = 0 := by show ¬ (flat t).length = 0; omega
    rw [e, if_neg this]
    rfl
theorem atO_lt (ot : Option Tr) (L I : Int) : atO ot L I < ((spo ot).length : Int) := by
  unfold atO
  split
  · cases ot with
    | none => simp [subO, spo]
    | some t =>
      cases hs : sub t (path L.toNat I.toNat) with
      | none => simp only [subO, hs]; omega
      | some x =>
        obtain ⟨o, u⟩ := x
        have := sub_le hs
        have := flat_pos u
        simp only [subO, hs, spo]; omega
  · omega
/-- One step further down. -/
theorem atO_step (ot : Option Tr) {k i : Nat} (h1 : k + 1 ≤ 60) (h2 : i < 2 ^ (k + 1)) :
    atO ot ((k + 1 : Nat) : Int) (i : Int) = halfI (spo ot) (atO ot (k : Int) ((i / 2 : Nat) : Int)) (decide (i % 2 = 1)) ∧ halfI (spo ot) (atO ot (k : Int) ((i / 2 : Nat) : Int)) (decide (i % 2 = 1)) < ((spo ot).length : Int) := by
  have hlt := atO_lt ot ((k + 1 : Nat) : Int) (i : Int)
  suffices h : atO ot ((k + 1 : Nat) : Int) (i : Int) = halfI (spo ot) (atO ot (k : Int) ((i / 2 : Nat) : Int)) (decide (i % 2 = 1)) by
    refine ⟨h, ?_⟩
    rw [← h]
    exact hlt
  have h3 : i / 2 < 2 ^ k := by rw [Nat.pow_succ] at h2; omega
  rw [atO_nat ot h1 h2, atO_nat ot (by omega) h3]
  have hp : path (k + 1) i = path k (i / 2) ++ [decide (i % 2 = 1)] := by
    rw [← path_snoc]
    congr 1
    by_cases hc : i % 2 = 1
    · simp [hc]; omega
    · simp [hc]; omega
  cases ot with
  | none => rfl
  | some t =>
    show (match sub t (path (k + 1) i) with | some x => (x.1 : Int) | none => -1) = halfI (flat t) (match sub t (path k (i / 2)) with | some x => (x.1 : Int) | none => -1) _
    rw [hp, sub_snoc]
    cases hs : sub t (path k (i / 2)) with
    | none => rfl
    | some x =>
      obtain ⟨o, u⟩ := x
      cases u with
      | leaf a b => simp only [halfI_leaf hs]
      | inner a b l r =>
        simp only [halfI_inner hs]
        cases decide (i % 2 = 1) <;> rfl

end Go.Proofs.Ytoddcpkogapolaa
