import Derived.Test.YtkmlnglmecjmeaaPhaseA
import Derived.Test.YtkmlnglmecjmeaaTreeA
/- A copy and one behind it: all appended to an empty slice, then the one's slice, then a call on it, whatever the order in which memory is made. Of no program. Condition: as the theorems name them. -/
namespace Go.Proofs.Ytkmlnglmecjmeaa
open Go Go.RowKit
set_option linter.unusedVariables false

/-- How things stand: q0 the empty slice, q1 all appended, q2 the one's slice, q3 it appended, q4 a call, behind which S holds of what it answers. -/
structure Snoc (N : Nat) (wr : World) (e : TypeId) (s nx : Nat) (X Y : List Value) (S : World → Value → Prop) (r : Nat → Value) (D : Nat → Bool) (w : World) : Prop where
  B : Below N wr w
  sz : N ≤ w.heap.size
  d1 : D 1 = true → D 0 = true
  d3 : D 3 = true → D 1 = true ∧ D 2 = true
  d4 : D 4 = true → D 3 = true
  o0 : D 0 = true → D 1 = false → w.ownsRow N e s (r 0) 0 []
  o1 : D 1 = true → D 3 = false → w.ownsRow N e s (r 1) nx X
  o2 : D 2 = true → D 3 = false → w.ownsRow N e s (r 2) 1 Y
  o3 : D 3 = true → w.ownsRow N e s (r 3) (nx + 1) (X ++ Y)
  s4 : D 4 = true → S w (r 4)
  n0 : D 0 = true → D 1 = false → D 2 = true → ∀ g, (r 2).ownBlock = some g → (r 0).ownBlock ≠ some g
section
variable {N : Nat} {wr : World} {e : TypeId} {s nx : Nat} {X Y : List Value} {S : World → Value → Prop} {r r' : Nat → Value} {D : Nat → Bool} {w w' : World}
theorem Snoc.start (hw : Below wr.heap.size wr w) (r : Nat → Value) : Snoc wr.heap.size wr e s nx X Y S r (fun _ => false) w :=
  ⟨hw, hw.size, nofun, nofun, nofun, nofun, nofun, nofun, nofun, nofun, nofun⟩
theorem Snoc.no3 (h : Snoc N wr e s nx X Y S r D w) {q : Nat} (hq : q = 1 ∨ q = 2) (hD : D q = false) : D 3 = false := by
  cases h3 : D 3 with
  | false => rfl
  | true =>
    have := h.d3 h3
    rcases hq with rfl | rfl
    · rw [this.1] at hD; cases hD
    · rw [this.2] at hD; cases hD
theorem Snoc.no4 (h : Snoc N wr e s nx X Y S r D w) (hD : D 3 = false) : D 4 = false := by
  cases h4 : D 4 with
  | false => rfl
  | true => rw [h.d4 h4] at hD; cases hD
theorem Snoc.q0 (t : TypeId) (h : Snoc N wr t s nx X Y S r D w) (hD : D 0 = false) (hr : ∀ j, D j = true → r' j = r j) (hv : r' 0 = .slice (some ⟨w.heap.size, 0, none⟩) 0 0) :
    Snoc N wr t s nx X Y S r' (fun j => j == 0 || D j) (w.alloc (.cells #[] t)) := by
  have h1 : D 1 = false := by cases h1 : D 1 with | false => rfl | true => rw [h.d1 h1] at hD; cases hD
  have h3 := h.no3 (Or.inl rfl) h1
  have h4 := h.no4 h3
  have e : ∀ j : Nat, j ≠ 0 → (j == 0 || D j) = D j := fun j hj => by simp [hj]
  refine ⟨h.B.alloc h.sz _, Nat.le_trans h.sz (by simp), ?_, ?_, ?_, ?_, ?_, ?_, ?_, ?_, ?_⟩
  · intro _; simp
  · rw [e 3 (by decide), h3]; nofun
  · rw [e 4 (by decide), h4]; nofun
  · intro _ _; rw [hv]; exact owns_empty w _ s h.sz
  · rw [e 1 (by decide), h1]; nofun
  · rw [e 2 (by decide)]
    intro h2 h5
    rw [hr 2 h2]
    exact (h.o2 h2 h3).alloc _
  · rw [e 3 (by decide), h3]; nofun
  · rw [e 4 (by decide), h4]; nofun
  · rw [e 2 (by decide)]
    intro _ _ h2 g hg
    rw [hr 2 h2] at hg
    have := ((h.o2 h2 h3).lt g hg).2
    rw [hv]
    simp [Value.ownBlock]
    omega
theorem Snoc.q2 (t : TypeId) (cs : Array Value) (h : Snoc N wr t s nx X Y S r D w) (hcs : cs.size = s) (hY : Y = cs.toList) (hD : D 2 = false) (hr : ∀ j, D j = true → r' j = r j) (hv : r' 2 = .slice (some ⟨w.heap.size, 0, none⟩) 1 1) :
    Snoc N wr t s nx X Y S r' (fun j => j == 2 || D j) (w.alloc (.cells cs t)) := by
  have h3 := h.no3 (Or.inr rfl) hD
  have h4 := h.no4 h3
  have e : ∀ j : Nat, j ≠ 2 → (j == 2 || D j) = D j := fun j hj => by simp [hj]
  refine ⟨h.B.alloc h.sz _, Nat.le_trans h.sz (by simp), ?_, ?_, ?_, ?_, ?_, ?_, ?_, ?_, ?_⟩
  · rw [e 1 (by decide), e 0 (by decide)]; exact h.d1
  · rw [e 3 (by decide), h3]; nofun
  · rw [e 4 (by decide), h4]; nofun
  · rw [e 1 (by decide), e 0 (by decide)]
    intro h0 h1
    rw [hr 0 h0]
    exact (h.o0 h0 h1).alloc _
  · rw [e 1 (by decide)]
    intro h1 _
    rw [hr 1 h1]
    exact (h.o1 h1 h3).alloc _
  · intro _ _
    rw [hv, hY]
    exact ⟨by simp [hcs], .inr ⟨w.heap.size, 1, cs, rfl, h.sz, heap_alloc_new w _, Nat.le_refl _, by decide, by simp [hcs], by rw [Nat.one_mul, ← hcs, ← Array.length_toList, List.take_length]⟩⟩
  · rw [e 3 (by decide), h3]; nofun
  · rw [e 4 (by decide), h4]; nofun
  · rw [e 1 (by decide), e 0 (by decide)]
    intro h0 h1 _ g hg h9
    rw [hr 0 h0] at h9
    have := ((h.o0 h0 h1).lt g h9).2
    rw [hv] at hg
    simp [Value.ownBlock] at hg
    omega
theorem Snoc.q1 {v : Value} (h : Snoc N wr e s nx X Y S r D w) (h0 : D 0 = true) (hD : D 1 = false) (hr : ∀ j, D j = true → r' j = r j) (hv : r' 1 = v)
    (hown : w'.ownsRow N e s v nx X) (hg : w.grownBy w' (r 0).ownBlock) : Snoc N wr e s nx X Y S r' (fun j => j == 1 || D j) w' := by
  have h3 := h.no3 (Or.inl rfl) hD
  have h4 := h.no4 h3
  have e : ∀ j : Nat, j ≠ 1 → (j == 1 || D j) = D j := fun j hj => by simp [hj]
  have ho := h.o0 h0 hD
  refine ⟨h.B.grown hg h.sz (fun k hk => (ho.lt k hk).1), Nat.le_trans h.sz hg.size, ?_, ?_, ?_, ?_, ?_, ?_, ?_, ?_, ?_⟩
  · rw [e 0 (by decide)]; exact fun _ => h0
  · rw [e 3 (by decide), h3]; nofun
  · rw [e 4 (by decide), h4]; nofun
  · intro _ h1; simp at h1
  · intro _ _
    rw [hv]
    exact hown
  · rw [e 2 (by decide)]
    intro h2 _
    rw [hr 2 h2]
    refine (h.o2 h2 h3).kept hg ?_
    cases hb : (r 2).ownBlock with
    | none => exact Or.inl rfl
    | some g => exact Or.inr (fun hh => h.n0 h0 hD h2 g hb hh.symm)
  · rw [e 3 (by decide), h3]; nofun
  · rw [e 4 (by decide), h4]; nofun
  · intro _ h1; simp at h1
theorem Snoc.q3 {v : Value} (h : Snoc N wr e s nx X Y S r D w) (h1 : D 1 = true) (h2 : D 2 = true) (hD : D 3 = false) (hr : ∀ j, D j = true → r' j = r j) (hv : r' 3 = v)
    (hown : w'.ownsRow N e s v (nx + 1) (X ++ Y)) (hg : w.grownBy w' (r 1).ownBlock) : Snoc N wr e s nx X Y S r' (fun j => j == 3 || D j) w' := by
  have h4 := h.no4 hD
  have e : ∀ j : Nat, j ≠ 3 → (j == 3 || D j) = D j := fun j hj => by simp [hj]
  have ho := h.o1 h1 hD
  refine ⟨h.B.grown hg h.sz (fun k hk => (ho.lt k hk).1), Nat.le_trans h.sz hg.size, ?_, ?_, ?_, ?_, ?_, ?_, ?_, ?_, ?_⟩
  · rw [e 1 (by decide), e 0 (by decide)]; exact h.d1
  · rw [e 1 (by decide), e 2 (by decide)]; exact fun _ => ⟨h1, h2⟩
  · rw [e 4 (by decide), h4]; nofun
  · rw [e 1 (by decide), h1]; nofun
  · intro _ h; simp at h
  · intro _ h; simp at h
  · intro _
    rw [hv]
    exact hown
  · rw [e 4 (by decide), h4]; nofun
  · rw [e 1 (by decide), h1]; nofun
theorem Snoc.q4 {v : Value} (h : Snoc N wr e s nx X Y S r D w) (h3 : D 3 = true) (hr : ∀ j, D j = true → r' j = r j) (hv : r' 4 = v)
    (hb : Below w.heap.size w w') (hS : S w' v) : Snoc N wr e s nx X Y S r' (fun j => j == 4 || D j) w' := by
  have e : ∀ j : Nat, j ≠ 4 → (j == 4 || D j) = D j := fun j hj => by simp [hj]
  obtain ⟨h1, h2⟩ := h.d3 h3
  refine ⟨h.B.trans (hb.mono h.sz), Nat.le_trans h.sz hb.size, ?_, ?_, ?_, ?_, ?_, ?_, ?_, ?_, ?_⟩
  · rw [e 1 (by decide), e 0 (by decide)]; exact h.d1
  · rw [e 1 (by decide), e 2 (by decide), e 3 (by decide)]; exact h.d3
  · rw [e 3 (by decide)]; exact fun _ => h3
  · rw [e 1 (by decide), h1]; nofun
  · rw [e 3 (by decide), h3]; nofun
  · rw [e 3 (by decide), h3]; nofun
  · rw [e 3 (by decide)]
    intro _
    rw [hr 3 h3]
    exact owns_below (h.o3 h3) hb
  · intro _
    rw [hv]
    exact hS
  · rw [e 1 (by decide), h1]; nofun
end

end Go.Proofs.Ytkmlnglmecjmeaa
