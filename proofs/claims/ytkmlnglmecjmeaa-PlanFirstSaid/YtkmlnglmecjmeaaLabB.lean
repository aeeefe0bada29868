/- Several texts in one: each part says what it proves, and under which conditions. -/
import Derived.Test.YtkmlnglmecjmeaaMemA

/- Labels: places in a tree, by bits from the root; whose label, and the part at it. Plain: of no program. No condition but those named. -/
namespace Go.Proofs.Ytkmlnglmecjmeaa
open Go.RowKit
set_option linter.unusedVariables false

/-- A label may be. -/
def okL (L I : Int) : Bool := decide (0 ≤ L) && decide (L ≤ 60) && decide (0 ≤ I) && decide (I < ((2 ^ L.toNat : Nat) : Int))
theorem okL_iff (L I : Int) : okL L I = true ↔ ∃ k i : Nat, L = k ∧ I = i ∧ k ≤ 60 ∧ i < 2 ^ k := by
  simp only [okL, Bool.and_eq_true, decide_eq_true_eq]
  constructor
  · rintro ⟨⟨⟨h1, h2⟩, h3⟩, h4⟩
    exact ⟨L.toNat, I.toNat, by omega, by omega, by omega, by omega⟩
  · rintro ⟨k, i, rfl, rfl, h1, h2⟩
    exact ⟨⟨⟨by omega, by omega⟩, by omega⟩, by rw [Int.toNat_natCast]; exact Int.ofNat_lt.2 h2⟩
theorem okL_nat {k i : Nat} (h1 : k ≤ 60) (h2 : i < 2 ^ k) : okL (k : Int) (i : Int) = true := (okL_iff _ _).2 ⟨k, i, rfl, rfl, h1, h2⟩
/-- The way down to it: right halves are true. -/
def path : Nat → Nat → List Bool
  | 0, _ => []
  | k + 1, i => decide (i / 2 ^ k % 2 = 1) :: path k i
def idx : List Bool → Nat
  | [] => 0
  | b :: p => (if b then 2 ^ p.length else 0) + idx p
theorem path_length (k i : Nat) : (path k i).length = k := by
  induction k with
  | zero => rfl
  | succ k ih => simp [path, ih]
theorem idx_lt (p : List Bool) : idx p < 2 ^ p.length := by
  induction p with
  | nil => simp [idx]
  | cons b p ih =>
    simp only [idx, List.length_cons, Nat.pow_succ]
    cases b <;> simp <;> omega
theorem path_low (k : Nat) : ∀ i a : Nat, path k (a * 2 ^ k + i) = path k i := by
  induction k with
  | zero => intro i a; rfl
  | succ k ih =>
    intro i a
    have e : a * 2 ^ (k + 1) + i = a * 2 * 2 ^ k + i := by rw [Nat.pow_succ]; congr 1; rw [Nat.mul_comm (2 ^ k) 2, Nat.mul_assoc]
    have h2 : (a * 2 * 2 ^ k + i) / 2 ^ k = a * 2 + i / 2 ^ k := by
      rw [Nat.add_comm, Nat.add_mul_div_right _ _ (Nat.two_pow_pos k), Nat.add_comm]
    rw [e]
    show decide ((a * 2 * 2 ^ k + i) / 2 ^ k % 2 = 1) :: path k (a * 2 * 2 ^ k + i) = decide (i / 2 ^ k % 2 = 1) :: path k i
    rw [h2, ih]
    congr 2
    rw [show (a * 2 + i / 2 ^ k) % 2 = i / 2 ^ k % 2 by omega]
theorem path_idx (p : List Bool) : path p.length (idx p) = p := by
  induction p with
  | nil => rfl
  | cons b p ih =>
    have hl := idx_lt p
    show decide (idx (b :: p) / 2 ^ p.length % 2 = 1) :: path p.length (idx (b :: p)) = b :: p
    cases b with
    | false =>
      have e : idx (false :: p) = idx p := by simp [idx]
      rw [e, ih, Nat.div_eq_of_lt hl]
      rfl
    | true =>
      have e : idx (true :: p) = 1 * 2 ^ p.length + idx p := by simp [idx]
      rw [e, path_low, ih, Nat.add_comm, Nat.add_mul_div_right _ _ (Nat.two_pow_pos _), Nat.div_eq_of_lt hl]
      rfl
theorem idx_path (k : Nat) : ∀ i : Nat, i < 2 ^ k → idx (path k i) = i := by
  induction k with
  | zero => intro i h; simp at h; subst h; rfl
  | succ k ih =>
    intro i h
    rw [Nat.pow_succ] at h
    have hp := Nat.two_pow_pos k
    rcases Nat.lt_or_ge i (2 ^ k) with hlt | hge
    · have e : i / 2 ^ k = 0 := Nat.div_eq_of_lt hlt
      simp only [path, e, idx]
      rw [ih i hlt]
      simp
    · have e1 : i = 1 * 2 ^ k + (i - 2 ^ k) := by omega
      have e2 : i / 2 ^ k = 1 := by rw [e1, Nat.add_comm, Nat.add_mul_div_right _ _ hp, Nat.div_eq_of_lt (by omega)]
      have e3 : path k i = path k (i - 2 ^ k) := by
        conv => lhs; rw [e1]
        exact path_low k _ _
      simp only [path, e2, e3, idx, path_length]
      rw [ih (i - 2 ^ k) (by omega)]
      simp
      omega
/-- One deeper. -/
theorem path_snoc (k : Nat) : ∀ (i : Nat) (b : Bool), path (k + 1) (2 * i + (if b then 1 else 0)) = path k i ++ [b] := by
  induction k with
  | zero =>
    intro i b
    cases b
    · simp [path]
    · simp [path]
  | succ k ih =>
    intro i b
    have hd : (2 * i + (if b then 1 else 0)) / 2 ^ (k + 1) = i / 2 ^ k := by
      rw [show 2 ^ (k + 1) = 2 * 2 ^ k by rw [Nat.pow_succ, Nat.mul_comm], ← Nat.div_div_eq_div_mul]
      congr 1
      cases b <;> simp <;> omega
    show decide ((2 * i + (if b then 1 else 0)) / 2 ^ (k + 1) % 2 = 1) :: path (k + 1) (2 * i + (if b then 1 else 0)) = (decide (i / 2 ^ k % 2 = 1) :: path k i) ++ [b]
    rw [hd, ih]
    rfl
theorem path_up (k i : Nat) : path k (i / 2) = (path (k + 1) i).take k := by
  have h := path_snoc k (i / 2) (decide (i % 2 = 1))
  have e : 2 * (i / 2) + (if (decide (i % 2 = 1)) = true then 1 else 0) = i := by
    by_cases hc : i % 2 = 1
    · simp [hc]; omega
    · simp [hc]; omega
  rw [e] at h
  rw [h]
  have := path_length k (i / 2)
  rw [List.take_append_of_le_length (by omega), List.take_of_length_le (by omega)]
theorem path_ups (k j : Nat) : ∀ i, path k (i / 2 ^ j) = (path (k + j) i).take k := by
  induction j with
  | zero =>
    intro i
    have := path_length k i
    rw [Nat.pow_zero, Nat.div_one, Nat.add_zero, List.take_of_length_le (by omega)]
  | succ j ih =>
    intro i
    rw [Nat.pow_succ, Nat.mul_comm, ← Nat.div_div_eq_div_mul, ih (i / 2), path_up (k + j) i, List.take_take, Nat.min_eq_left (by omega)]
    rfl

/-- The part at the end of a way down, and how many spots lie ahead of it. -/
def sub : Tr → List Bool → Option (Nat × Tr)
  | t, [] => some (0, t)
  | .leaf _ _, _ :: _ => none
  | .inner _ _ l _, false :: p => (sub l p).map fun x => (x.1 + 1, x.2)
  | .inner _ _ l r, true :: p => (sub r p).map fun x => (x.1 + 1 + (flat l).length, x.2)
theorem sub_nil (t : Tr) : sub t [] = some (0, t) := by cases t <;> rfl
theorem sub_drop : ∀ (t : Tr) (p : List Bool) (o : Nat) (u : Tr), sub t p = some (o, u) → ∃ a r, flat t = a ++ (flat u ++ r) ∧ a.length = o
  | t, [], o, u, h => by
    rw [sub_nil] at h
    simp only [Option.some.injEq, Prod.mk.injEq] at h
    obtain ⟨rfl, rfl⟩ := h
    exact ⟨[], [], by simp, rfl⟩
  | .leaf _ _, _ :: _, o, u, h => by cases h
  | .inner a b l r, false :: p, o, u, h => by
    simp only [sub, Option.map_eq_some_iff, Prod.mk.injEq] at h
    obtain ⟨⟨o', u'⟩, h1, rfl, rfl⟩ := h
    obtain ⟨x, y, e, hl⟩ := sub_drop l p o' u' h1
    exact ⟨(false, a, b) :: x, y ++ flat r, by simp [flat, e], by simp [hl]⟩
  | .inner a b l r, true :: p, o, u, h => by
    simp only [sub, Option.map_eq_some_iff, Prod.mk.injEq] at h
    obtain ⟨⟨o', u'⟩, h1, rfl, rfl⟩ := h
    obtain ⟨x, y, e, hl⟩ := sub_drop r p o' u' h1
    exact ⟨(false, a, b) :: (flat l ++ x), y, by simp [flat, e], by simp [hl]; omega⟩
theorem sub_le {t : Tr} {p : List Bool} {o : Nat} {u : Tr} (h : sub t p = some (o, u)) : o + (flat u).length ≤ (flat t).length := by
  obtain ⟨a, r, e, rfl⟩ := sub_drop t p o u h
  rw [e]
  simp only [List.length_append]
  omega
theorem sub_part {t : Tr} {p : List Bool} {o : Nat} {u : Tr} (h : sub t p = some (o, u)) : ((flat t).drop o).take (flat u).length = flat u ∧ endI (flat t) (o : Int) = ((o + (flat u).length : Nat) : Int) := by
  obtain ⟨a, r, e, rfl⟩ := sub_drop t p o u h
  have hd : (flat t).drop a.length = flat u ++ r := by rw [e, List.drop_left]
  exact ⟨by rw [hd, List.take_left], endI_part _ _ u r hd⟩
theorem sub_high : ∀ (t : Tr) (p : List Bool) (o : Nat) (u : Tr), sub t p = some (o, u) → (p.length : Int) + ht u ≤ ht t
  | t, [], o, u, h => by
    rw [sub_nil] at h
    simp only [Option.some.injEq, Prod.mk.injEq] at h
    obtain ⟨rfl, rfl⟩ := h
    simp
  | .leaf _ _, _ :: _, o, u, h => by cases h
  | .inner a b l r, false :: p, o, u, h => by
    simp only [sub, Option.map_eq_some_iff, Prod.mk.injEq] at h
    obtain ⟨⟨o', u'⟩, h1, rfl, rfl⟩ := h
    have := sub_high l p o' u' h1
    simp only [ht, List.length_cons]
    omega
  | .inner a b l r, true :: p, o, u, h => by
    simp only [sub, Option.map_eq_some_iff, Prod.mk.injEq] at h
    obtain ⟨⟨o', u'⟩, h1, rfl, rfl⟩ := h
    have := sub_high r p o' u' h1
    simp only [ht, List.length_cons]
    omega
/-- One step more. -/
theorem sub_snoc : ∀ (t : Tr) (p : List Bool) (b : Bool), sub t (p ++ [b]) = match sub t p with
    | none => none
    | some (_, .leaf _ _) => none
    | some (o, .inner _ _ l r) => if b then some (o + 1 + (flat l).length, r) else some (o + 1, l)
  | .leaf _ _, [], b => by cases b <;> rfl
  | .inner x y l r, [], b => by
    cases b
    · simp [sub, sub_nil]
    · simp [sub, sub_nil]
  | .leaf _ _, c :: p, b => by cases c <;> rfl
  | .inner x y l r, false :: p, b => by
    have ih := sub_snoc l p b
    simp only [List.cons_append, sub, ih]
    cases hs : sub l p with
    | none => rfl
    | some q =>
      obtain ⟨o, u⟩ := q
      cases u with
      | leaf c d => rfl
      | inner c d l' r' =>
        cases b
        · rfl
        · simp; omega
  | .inner x y l r, true :: p, b => by
    have ih := sub_snoc r p b
    simp only [List.cons_append, sub, ih]
    cases hs : sub r p with
    | none => rfl
    | some q =>
      obtain ⟨o, u⟩ := q
      cases u with
      | leaf c d => rfl
      | inner c d l' r' =>
        cases b
        · simp; omega
        · simp; omega
/-- Behind what isn't there there is nothing. -/
theorem sub_more (t : Tr) (p q : List Bool) (h : sub t p = none) : sub t (p ++ q) = none := by
  induction q generalizing p with
  | nil => simpa using h
  | cons b q ih =>
    have h1 : sub t (p ++ [b]) = none := by rw [sub_snoc, h]
    have := ih (p ++ [b]) h1
    simpa using this
/-- The way down to a member's leaf: the first one. -/
def off : Tr → Int × Int → Option (List Bool)
  | .leaf a b, m => if (a, b) = m then some [] else none
  | .inner _ _ l r, m => match off l m with
    | some p => some (false :: p)
    | none => (off r m).map (true :: ·)
theorem off_sub : ∀ (t : Tr) (m : Int × Int) (p : List Bool), off t m = some p → ∃ o, sub t p = some (o, .leaf m.1 m.2)
  | .leaf a b, m, p, h => by
    simp only [off] at h
    by_cases e : (a, b) = m
    · rw [if_pos e] at h
      simp only [Option.some.injEq] at h
      subst h e
      exact ⟨0, rfl⟩
    · rw [if_neg e] at h; cases h
  | .inner a b l r, m, p, h => by
    simp only [off] at h
    cases hl : off l m with
    | some q =>
      simp only [hl, Option.some.injEq] at h
      subst h
      obtain ⟨o, e⟩ := off_sub l m q hl
      exact ⟨o + 1, by simp [sub, e]⟩
    | none =>
      simp only [hl, Option.map_eq_some_iff] at h
      obtain ⟨q, h1, rfl⟩ := h
      obtain ⟨o, e⟩ := off_sub r m q h1
      exact ⟨o + 1 + (flat l).length, by simp [sub, e]⟩
theorem off_none : ∀ (t : Tr) (m : Int × Int), off t m = none ↔ m ∉ lv (flat t)
  | .leaf a b, m => by
    simp only [off, flat]
    by_cases e : (a, b) = m
    · subst e; simp [lv]
    · rw [if_neg e]
      simp [lv]
      exact fun h => e h.symm
  | .inner a b l r, m => by
    have e : lv (flat (.inner a b l r)) = lv (flat l) ++ lv (flat r) := by
      rw [← lv_append]; rfl
    rw [e, List.mem_append]
    have h1 := off_none l m
    have h2 := off_none r m
    simp only [off]
    cases hl : off l m with
    | some q =>
      have : ¬ m ∉ lv (flat l) := fun h => by rw [h1.2 h] at hl; cases hl
      simp
      intro h
      exact absurd h this
    | none =>
      have := h1.1 hl
      simp [Option.map_eq_none_iff, h2, this]
theorem off_high {t : Tr} {m : Int × Int} {p : List Bool} (h : off t m = some p) : (p.length : Int) ≤ ht t := by
  obtain ⟨o, e⟩ := off_sub t m p h
  have := sub_high t p o _ e
  have := ht_nonneg (.leaf m.1 m.2)
  omega
/-- Wherever on the way to a member's leaf it is in the part. -/
theorem sub_mem : ∀ (t : Tr) (p : List Bool) (k : Nat) (o : Nat) (a b : Int), sub t p = some (o, .leaf a b) → ∃ o' u, sub t (p.take k) = some (o', u) ∧ (a, b) ∈ lv (flat u)
  | t, p, 0, o, a, b, h => by
    obtain ⟨x, r, e, _⟩ := sub_drop t p o _ h
    refine ⟨0, t, by rw [List.take_zero, sub_nil], ?_⟩
    rw [e, lv_append, lv_append]
    simp [flat, lv]
  | t, [], k + 1, o, a, b, h => by
    rw [sub_nil] at h
    simp only [Option.some.injEq, Prod.mk.injEq] at h
    obtain ⟨rfl, rfl⟩ := h
    exact ⟨0, _, by rw [List.take_nil, sub_nil], by simp [flat, lv]⟩
  | .leaf _ _, _ :: _, k + 1, o, a, b, h => by cases h
  | .inner x y l r, false :: p, k + 1, o, a, b, h => by
    simp only [sub, Option.map_eq_some_iff, Prod.mk.injEq] at h
    obtain ⟨⟨o', u'⟩, h1, rfl, rfl⟩ := h
    obtain ⟨q, u, e, hm⟩ := sub_mem l p k o' a b h1
    exact ⟨q + 1, u, by simp [sub, e], hm⟩
  | .inner x y l r, true :: p, k + 1, o, a, b, h => by
    simp only [sub, Option.map_eq_some_iff, Prod.mk.injEq] at h
    obtain ⟨⟨o', u'⟩, h1, rfl, rfl⟩ := h
    obtain ⟨q, u, e, hm⟩ := sub_mem r p k o' a b h1
    exact ⟨q + 1 + (flat l).length, u, by simp [sub, e], hm⟩

end Go.Proofs.Ytkmlnglmecjmeaa


/- What layer 10's calls answer, plainly: of labels, and of trees that may be nothing. Of no program. No condition. -/
namespace Go.Proofs.Ytkmlnglmecjmeaa
open Go.RowKit
set_option linter.unusedVariables false

/-- The spots of a tree, or of nothing. -/
def spo : Option Tr → List Sp
  | none => []
  | some t => flat t
def subO : Option Tr → List Bool → Option (Nat × Tr)
  | none, _ => none
  | some t, p => sub t p
def offO : Option Tr → Int × Int → Option (List Bool)
  | none, _ => none
  | some t, m => off t m
/-- How high: of nothing -1. -/
def htO : Option Tr → Int
  | none => -1
  | some t => ht t
theorem spo_of {xs : List Sp} (h : okT xs = true) : ∃ ot, xs = spo ot := by
  by_cases hp : xs = []
  · exact ⟨none, hp⟩
  · obtain ⟨t, rfl⟩ := okT_flat h hp
    exact ⟨some t, rfl⟩
/-- What a label is a half of, and the other half. -/
def upL (L I : Int) : (Int × Int) × Bool := if okL L I && decide (L ≠ 0) then ((L - 1, I / 2), true) else ((0, 0), false)
def besL (L I : Int) : (Int × Int) × Bool := if okL L I && decide (L ≠ 0) then ((L, if I % 2 = 0 then I + 1 else I - 1), true) else ((0, 0), false)
/-- The spot of a label, the part at it. -/
def atO (ot : Option Tr) (L I : Int) : Int := if okL L I then (match subO ot (path L.toNat I.toNat) with | some x => (x.1 : Int) | none => -1) else -1
def partO (ot : Option Tr) (L I : Int) : List Sp := if okL L I then (match subO ot (path L.toNat I.toNat) with | some x => flat x.2 | none => []) else []
def labOf (p : List Bool) : Int × Int := ((p.length : Int), (idx p : Int))
/-- A member's label, and the way up from it. -/
def ofO (ot : Option Tr) (m : Int × Int) : (Int × Int) × Bool := match offO ot m with
  | some p => (labOf p, true)
  | none => ((0, 0), false)
def ups : Nat → Nat → List (Int × Int)
  | 0, i => [(0, (i : Int))]
  | k + 1, i => (((k + 1 : Nat) : Int), (i : Int)) :: ups k (i / 2)
def wayO (ot : Option Tr) (m : Int × Int) : List (Int × Int) := match offO ot m with
  | some p => ups p.length (idx p)
  | none => []
theorem ups_length (k : Nat) : ∀ i, (ups k i).length = k + 1 := by
  induction k with
  | zero => intro i; rfl
  | succ k ih => intro i; simp [ups, ih]
theorem ups_get (k : Nat) : ∀ i j : Nat, (hj : j < (ups k i).length) → (ups k i)[j] = (((k - j : Nat) : Int), ((i / 2 ^ j : Nat) : Int)) := by
  induction k with
  | zero =>
    intro i j hj
    have : j = 0 := by simp [ups] at hj; omega
    subst this
    simp [ups]
  | succ k ih =>
    intro i j hj
    cases j with
    | zero => simp [ups]
    | succ j =>
      simp only [ups, List.getElem_cons_succ]
      rw [ih (i / 2) j (by simpa [ups] using hj), Nat.div_div_eq_div_mul, Nat.pow_succ, Nat.mul_comm 2]
      congr 2
      omega
theorem upL_yes {k i : Nat} (h1 : k + 1 ≤ 60) (h2 : i < 2 ^ (k + 1)) : upL ((k + 1 : Nat) : Int) (i : Int) = (((k : Int), ((i / 2 : Nat) : Int)), true) := by
  unfold upL
  rw [okL_nat h1 h2]
  have : ((k + 1 : Nat) : Int) ≠ 0 := by omega
  rw [if_pos (by simp only [Bool.true_and, decide_eq_true_eq]; exact this)]
  congr 2
  omega
theorem atO_nat (ot : Option Tr) {k i : Nat} (h1 : k ≤ 60) (h2 : i < 2 ^ k) : atO ot (k : Int) (i : Int) = match subO ot (path k i) with | some x => (x.1 : Int) | none => -1 := by
  unfold atO
  rw [okL_nat h1 h2]
  simp
theorem partO_nat (ot : Option Tr) {k i : Nat} (h1 : k ≤ 60) (h2 : i < 2 ^ k) : partO ot (k : Int) (i : Int) = match subO ot (path k i) with | some x => flat x.2 | none => [] := by
  unfold partO
  rw [okL_nat h1 h2]
  simp

end Go.Proofs.Ytkmlnglmecjmeaa


/- The document's Right, Up and Beside of layer 10. No condition. -/
namespace Go.Proofs.Ytkmlnglmecjmeaa
open Go Go.RowKit
set_option linter.unusedVariables false

theorem wrap_pow {k : Nat} (h : k ≤ 60) : wrap64 (2 ^ k) = ((2 ^ k : Nat) : Int) := by
  have h1 : 2 ^ k ≤ 2 ^ 60 := Nat.pow_le_pow_right (by omega) h
  have h2 : (2 : Int) ^ k = ((2 ^ k : Nat) : Int) := by simp
  rw [h2]
  generalize 2 ^ k = x at *
  have h3 : x ≤ 1152921504606846976 := h1
  unfold wrap64
  omega

theorem new2 (w : World) (cs ds : List Value) (t u : TypeId) : ∃ W0, (w.alloc (.cells cs.toArray t)).alloc (.cells ds.toArray u) = W0 ∧ Box W0 w.heap.size cs ∧ Box W0 (w.heap.size + 1) ds ∧ Below w.heap.size w W0 := by
  refine ⟨_, rfl, ?_, ?_, below_new2 _ _ _⟩
  · exact (Box.new w cs t).below (below_new _ _) (by simp)
  · have := Box.new (w.alloc (.cells cs.toArray t)) ds u
    rwa [show (w.alloc (.cells cs.toArray t)).heap.size = w.heap.size + 1 by simp] at this
theorem xor_nat (i : Nat) : i ^^^ 1 = if i % 2 = 0 then i + 1 else i - 1 := by
  have h1 : (i ^^^ 1) / 2 = i / 2 := by
    have := Nat.xor_div_two_pow (a := i) (b := 1) (n := 1)
    simpa using this
  have h2 : (i ^^^ 1) % 2 = (i + 1) % 2 := by
    have := Nat.xor_mod_two_pow (a := i) (b := 1) (n := 1)
    rw [Nat.pow_one] at this
    rw [this]
    rcases Nat.mod_two_eq_zero_or_one i with h | h
    · rw [h]; show 1 = _; omega
    · rw [h]; show 0 = _; omega
  by_cases h : i % 2 = 0
  · rw [if_pos h]; omega
  · rw [if_neg h]; omega
theorem xor_one {k i : Nat} (hk : k ≤ 60) (hi : i < 2 ^ k) : bits .xor .i64 (i : Int) 1 = if (i : Int) % 2 = 0 then (i : Int) + 1 else (i : Int) - 1 := by
  have hi2 : i < 1152921504606846976 := Nat.lt_of_lt_of_le hi (Nat.le_trans (Nat.pow_le_pow_right (by omega) hk) (by decide))
  show IntKind.i64.wrap ((BitVec.ofInt 64 (i : Int) ^^^ BitVec.ofInt 64 1).toNat : Int) = _
  have e1 : (BitVec.ofInt 64 (i : Int)).toNat = i := by rw [BitVec.toNat_ofInt]; omega
  have e2 : (BitVec.ofInt 64 (1 : Int)).toNat = 1 := by decide
  rw [BitVec.toNat_xor, e1, e2]
  have e3 : i ^^^ 1 = if i % 2 = 0 then i + 1 else i - 1 := xor_nat i
  rw [e3, IntKind.wrap_i64]
  by_cases h : i % 2 = 0
  · rw [if_pos h, if_pos (by omega)]; omega
  · rw [if_neg h, if_neg (by omega)]; omega




end Go.Proofs.Ytkmlnglmecjmeaa
