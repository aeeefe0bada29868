import Derived.Test.YtkmlnglmecjmeaaPhaseA
import Derived.Test.YtkmlnglmecjmeaaGraB
/- A head put among heads: the front appended to an empty slice, then the head, then the rest, whatever the order in which its memory is made. Condition: as the theorem names them. -/
namespace Go.Proofs.Ytkmlnglmecjmeaa
open Go Go.RowKit
set_option linter.unusedVariables false

/-- append onto a slice of one's own, as it runs. -/
theorem run_append_slice {P : Program} {α : Type} {enc : α → List Value} {s : Nat} {R : Rd α} (hR : ∀ n w a cs, R n w a cs → cs = enc a) (hs : 0 < s) (hl : ∀ a, (enc a).length = s) (h1c : ∀ a, ∀ u ∈ enc a, u.oneCell' = true)
    {t e : TypeId} {z : Value} {bytes : Nat} (ht : P.underlying t = some (.slice e)) (hinfo : (P.info? e).map (fun i => (i.zero, i.size, i.bytes)) = some (some z, s, bytes)) (hz : z.cells.size = s)
    {o : Oper} {a : Act} (w : World) (so x : Operand)
    (ho : o.op = .call { callee := .builtin .append, args := #[so, x], argTypes := #[t, t] })
    (base : Nat) (v : Value) (n : Nat) (ys : List Value) (hv : a.eval so = v) (hown : w.ownsRow base e s v n ys)
    (n₀ : Nat) (V : Value) (xs : List α) (hx : a.eval x = V) (hL : SliceOf s R n₀ w xs [V]) (h63 : n + xs.length ≤ maxLen) (hb : (n + xs.length) * bytes ≤ 140737488355328) (hbase : base ≤ w.heap.size) :
    ∃ v' w', (execOp a.eval o).run P w = .ok (.value v') w' ∧ w'.ownsRow base e s v' (n + xs.length) (ys ++ xs.flatMap enc) ∧ w.grownBy w' v.ownBlock := by
  obtain ⟨i0, hi, hz0, hz1, hz2⟩ := info_parts hinfo
  obtain ⟨A, cap, eV, g1, g2, g3, g4⟩ := id hL
  simp only [List.cons.injEq, and_true] at eV
  subst eV
  cases A with
  | none =>
    have hc := g3 rfl
    subst hc
    have hx0 : xs = [] := List.eq_nil_of_length_eq_zero (by omega)
    subst hx0
    have hrun := run_append_owned_none (P := P) (w := w) base t o.type e i0 s ht hi v n ys hown
    refine ⟨v, w, ?_, by simpa using hown, World.grownBy.refl w _⟩
    simp [execOp, ho, resolve, invoke, builtin, hv, hx, hrun, Result.andThen]
  | some ad =>
    obtain ⟨_, _, _, hn⟩ := slice_news hR hs hl hL
    obtain ⟨v', w', hr, h2, h3, h4⟩ := run_append_own (P := P) w base t o.type e i0 z s bytes ht hi hz0 hz1 hz2 hz hs v n ys hown ad xs.length cap (xs.flatMap enc) (flat_len hl xs) hn (fun u hu => by
      obtain ⟨b, _, hb⟩ := List.mem_flatMap.1 hu
      exact h1c b u hb) h63 hb hbase
    refine ⟨v', w', ?_, h2, h3⟩
    unfold execOp
    simp only [ho, resolve, invoke, builtin, Sem.run_bind, Sem.run_pure, Result.andThen_ok, List.map_toArray, List.map_cons, List.map_nil, hv, hx, hr]
theorem run_append_heads {o : Oper} {a : Act} (w : World) (so x : Operand)
    (ho : o.op = .call { callee := .builtin .append, args := #[so, x], argTypes := #[49, 49] })
    (base : Nat) (v : Value) (n : Nat) (ys : List Value) (hv : a.eval so = v) (hown : w.ownsRow base 32 1 v n ys)
    (n₀ : Nat) (V : Value) (xs : List Hd) (hx : a.eval x = V) (hL : Heads n₀ w xs [V]) (hb : n + xs.length ≤ 4000000) (hbase : base ≤ w.heap.size) :
    ∃ v' w', (execOp a.eval o).run Try.prog w = .ok (.value v') w' ∧ w'.ownsRow base 32 1 v' (n + xs.length) (ys ++ xs.flatMap hC) ∧ w.grownBy w' v.ownBlock :=
  run_append_slice (enc := hC) (s := 1) (R := IsH) (fun _ _ _ _ h => h) (by decide) (fun _ => rfl) oneH Try.underlying49 infoH rfl w so x ho base v n ys hv hown n₀ V xs hx hL (Nat.le_trans hb (by decide)) (by omega) hbase
theorem run_append_heads_then {o : Oper} {a : Act} {C : Value → World → Prop} (w : World) (so x : Operand)
    (ho : o.op = .call { callee := .builtin .append, args := #[so, x], argTypes := #[49, 49] })
    (base : Nat) (v : Value) (n : Nat) (ys : List Value) (hv : a.eval so = v) (hown : w.ownsRow base 32 1 v n ys)
    (n₀ : Nat) (V : Value) (xs : List Hd) (hx : a.eval x = V) (hL : Heads n₀ w xs [V]) (hb : n + xs.length ≤ 4000000) (hbase : base ≤ w.heap.size)
    (hC : ∀ v' w', w'.ownsRow base 32 1 v' (n + xs.length) (ys ++ xs.flatMap hC) → w.grownBy w' v.ownBlock → C v' w') :
    ∃ v' w', (execOp a.eval o).run Try.prog w = .ok (.value v') w' ∧ C v' w' := by
  obtain ⟨v', w', h1, h2, h3⟩ := run_append_heads w so x ho base v n ys hv hown n₀ V xs hx hL hb hbase
  exact ⟨v', w', h1, hC v' w' h2 h3⟩
/-- How things stand: q0 the empty slice, q1 the front appended, q2 the new one's slice, q3 it appended, q4 the rest appended. -/
structure Ins (N : Nat) (wr : World) (h : Hd) (xs ys : List Hd) (r : Nat → Value) (D : Nat → Bool) (w : World) : Prop where
  B : Below N wr w
  sz : N ≤ w.heap.size
  d1 : D 1 = true → D 0 = true
  d3 : D 3 = true → D 1 = true ∧ D 2 = true
  d4 : D 4 = true → D 3 = true
  o0 : D 0 = true → D 1 = false → w.ownsRow N 32 1 (r 0) 0 []
  o1 : D 1 = true → D 3 = false → w.ownsRow N 32 1 (r 1) xs.length (xs.flatMap hC)
  o2 : D 2 = true → D 3 = false → w.ownsRow N 32 1 (r 2) 1 (hC h)
  o3 : D 3 = true → D 4 = false → w.ownsRow N 32 1 (r 3) (xs.length + 1) (xs.flatMap hC ++ hC h)
  o4 : D 4 = true → w.ownsRow N 32 1 (r 4) (xs.length + 1 + ys.length) (xs.flatMap hC ++ hC h ++ ys.flatMap hC)
  n0 : D 0 = true → D 1 = false → D 2 = true → ∀ g, (r 2).ownBlock = some g → (r 0).ownBlock ≠ some g
theorem Ins.start (wr w : World) (h : Hd) (xs ys : List Hd) (hw : Below wr.heap.size wr w) (r : Nat → Value) : Ins wr.heap.size wr h xs ys r (fun _ => false) w :=
  ⟨hw, hw.size, nofun, nofun, nofun, nofun, nofun, nofun, nofun, nofun, nofun⟩
theorem Ins.q0 {N : Nat} {wr : World} {h : Hd} {xs ys : List Hd} {r r' : Nat → Value} {D : Nat → Bool} {w : World} (s : Ins N wr h xs ys r D w) (hD : D 0 = false) (hr : ∀ j, D j = true → r' j = r j) (hv : r' 0 = .slice (some ⟨w.heap.size, 0, none⟩) 0 0) :
    Ins N wr h xs ys r' (fun j => j == 0 || D j) (w.alloc (.cells #[] 32)) := by
  have h1 : D 1 = false := by cases h : D 1 with | false => rfl | true => rw [s.d1 h] at hD; cases hD
  have h3 : D 3 = false := by cases h : D 3 with | false => rfl | true => rw [(s.d3 h).1] at h1; cases h1
  have h4 : D 4 = false := by cases h : D 4 with | false => rfl | true => rw [s.d4 h] at h3; cases h3
  have e : ∀ j : Nat, j ≠ 0 → (j == 0 || D j) = D j := fun j hj => by simp [hj]
  refine ⟨s.B.alloc s.sz _, Nat.le_trans s.sz (by simp), ?_, ?_, ?_, ?_, ?_, ?_, ?_, ?_, ?_⟩
  · intro _; simp
  · rw [e 3 (by decide), h3]; nofun
  · rw [e 4 (by decide), h4]; nofun
  · intro _ _; rw [hv]; exact owns_empty w _ 1 s.sz
  · rw [e 1 (by decide), h1]; nofun
  · rw [e 2 (by decide)]
    intro h2 h5
    rw [hr 2 h2]
    exact (s.o2 h2 h3).alloc _
  · rw [e 3 (by decide), h3]; nofun
  · rw [e 4 (by decide), h4]; nofun
  · rw [e 2 (by decide)]
    intro _ _ h2 g hg
    rw [hr 2 h2] at hg
    have := ((s.o2 h2 h3).lt g hg).2
    rw [hv]
    simp [Value.ownBlock]
    omega
theorem Ins.q2 {N : Nat} {wr : World} {h : Hd} {xs ys : List Hd} {r r' : Nat → Value} {D : Nat → Bool} {w : World} (s : Ins N wr h xs ys r D w) (hD : D 2 = false) (hr : ∀ j, D j = true → r' j = r j) (hv : r' 2 = .slice (some ⟨w.heap.size, 0, none⟩) 1 1) :
    Ins N wr h xs ys r' (fun j => j == 2 || D j) (w.alloc (.cells #[.slice h.1 h.2.1 h.2.2] 32)) := by
  have h3 : D 3 = false := by cases h : D 3 with | false => rfl | true => rw [(s.d3 h).2] at hD; cases hD
  have h4 : D 4 = false := by cases h : D 4 with | false => rfl | true => rw [s.d4 h] at h3; cases h3
  have e : ∀ j : Nat, j ≠ 2 → (j == 2 || D j) = D j := fun j hj => by simp [hj]
  refine ⟨s.B.alloc s.sz _, Nat.le_trans s.sz (by simp), ?_, ?_, ?_, ?_, ?_, ?_, ?_, ?_, ?_⟩
  · rw [e 1 (by decide), e 0 (by decide)]; exact s.d1
  · rw [e 3 (by decide), h3]; nofun
  · rw [e 4 (by decide), h4]; nofun
  · rw [e 1 (by decide), e 0 (by decide)]
    intro h0 h1
    rw [hr 0 h0]
    exact (s.o0 h0 h1).alloc _
  · rw [e 1 (by decide)]
    intro h1 _
    rw [hr 1 h1]
    exact (s.o1 h1 h3).alloc _
  · intro _ _
    rw [hv]
    exact ⟨rfl, .inr ⟨w.heap.size, 1, #[.slice h.1 h.2.1 h.2.2], rfl, s.sz, heap_alloc_new w _, Nat.le_refl _, by decide, rfl, rfl⟩⟩
  · rw [e 3 (by decide), h3]; nofun
  · rw [e 4 (by decide), h4]; nofun
  · rw [e 1 (by decide), e 0 (by decide)]
    intro h0 h1 _ g hg h9
    rw [hr 0 h0] at h9
    have := ((s.o0 h0 h1).lt g h9).2
    rw [hv] at hg
    simp [Value.ownBlock] at hg
    omega
theorem Ins.q1 {N : Nat} {wr : World} {h : Hd} {xs ys : List Hd} {r r' : Nat → Value} {D : Nat → Bool} {w w' : World} {v : Value} (s : Ins N wr h xs ys r D w) (h0 : D 0 = true) (hD : D 1 = false) (hr : ∀ j, D j = true → r' j = r j) (hv : r' 1 = v)
    (hown : w'.ownsRow N 32 1 v (0 + xs.length) ([] ++ xs.flatMap hC)) (hg : w.grownBy w' (r 0).ownBlock) : Ins N wr h xs ys r' (fun j => j == 1 || D j) w' := by
  have h3 : D 3 = false := by cases h : D 3 with | false => rfl | true => rw [(s.d3 h).1] at hD; cases hD
  have h4 : D 4 = false := by cases h : D 4 with | false => rfl | true => rw [s.d4 h] at h3; cases h3
  have e : ∀ j : Nat, j ≠ 1 → (j == 1 || D j) = D j := fun j hj => by simp [hj]
  have ho := s.o0 h0 hD
  refine ⟨s.B.grown hg s.sz (fun k hk => (ho.lt k hk).1), Nat.le_trans s.sz hg.size, ?_, ?_, ?_, ?_, ?_, ?_, ?_, ?_, ?_⟩
  · rw [e 0 (by decide)]; exact fun _ => h0
  · rw [e 3 (by decide), h3]; nofun
  · rw [e 4 (by decide), h4]; nofun
  · intro _ h1; simp at h1
  · intro _ _
    rw [hv]
    simpa using hown
  · rw [e 2 (by decide)]
    intro h2 _
    rw [hr 2 h2]
    refine (s.o2 h2 h3).kept hg ?_
    cases hb : (r 2).ownBlock with
    | none => exact Or.inl rfl
    | some g => exact Or.inr (fun h => s.n0 h0 hD h2 g hb h.symm)
  · rw [e 3 (by decide), h3]; nofun
  · rw [e 4 (by decide), h4]; nofun
  · intro _ h1; simp at h1
theorem Ins.q3 {N : Nat} {wr : World} {h : Hd} {xs ys : List Hd} {r r' : Nat → Value} {D : Nat → Bool} {w w' : World} {v : Value} (s : Ins N wr h xs ys r D w) (h1 : D 1 = true) (h2 : D 2 = true) (hD : D 3 = false) (hr : ∀ j, D j = true → r' j = r j) (hv : r' 3 = v)
    (hown : w'.ownsRow N 32 1 v (xs.length + [h].length) (xs.flatMap hC ++ [h].flatMap hC)) (hg : w.grownBy w' (r 1).ownBlock) : Ins N wr h xs ys r' (fun j => j == 3 || D j) w' := by
  have h4 : D 4 = false := by cases h : D 4 with | false => rfl | true => rw [s.d4 h] at hD; cases hD
  have e : ∀ j : Nat, j ≠ 3 → (j == 3 || D j) = D j := fun j hj => by simp [hj]
  have ho := s.o1 h1 hD
  refine ⟨s.B.grown hg s.sz (fun k hk => (ho.lt k hk).1), Nat.le_trans s.sz hg.size, ?_, ?_, ?_, ?_, ?_, ?_, ?_, ?_, ?_⟩
  · rw [e 1 (by decide), e 0 (by decide)]; exact s.d1
  · rw [e 1 (by decide), e 2 (by decide)]; exact fun _ => ⟨h1, h2⟩
  · rw [e 4 (by decide), h4]; nofun
  · rw [e 1 (by decide), h1]; nofun
  · intro _ h; simp at h
  · intro _ h; simp at h
  · intro _ _
    rw [hv]
    simpa using hown
  · rw [e 4 (by decide), h4]; nofun
  · rw [e 1 (by decide), h1]; nofun
theorem Ins.q4 {N : Nat} {wr : World} {h : Hd} {xs ys : List Hd} {r r' : Nat → Value} {D : Nat → Bool} {w w' : World} {v : Value} (s : Ins N wr h xs ys r D w) (h3 : D 3 = true) (hD : D 4 = false) (hr : ∀ j, D j = true → r' j = r j) (hv : r' 4 = v)
    (hown : w'.ownsRow N 32 1 v (xs.length + 1 + ys.length) (xs.flatMap hC ++ hC h ++ ys.flatMap hC)) (hg : w.grownBy w' (r 3).ownBlock) : Ins N wr h xs ys r' (fun j => j == 4 || D j) w' := by
  have e : ∀ j : Nat, j ≠ 4 → (j == 4 || D j) = D j := fun j hj => by simp [hj]
  have ho := s.o3 h3 hD
  obtain ⟨h1, h2⟩ := s.d3 h3
  refine ⟨s.B.grown hg s.sz (fun k hk => (ho.lt k hk).1), Nat.le_trans s.sz hg.size, ?_, ?_, ?_, ?_, ?_, ?_, ?_, ?_, ?_⟩
  · rw [e 1 (by decide), e 0 (by decide)]; exact s.d1
  · rw [e 1 (by decide), e 2 (by decide), e 3 (by decide)]; exact s.d3
  · rw [e 3 (by decide)]; exact fun _ => h3
  · rw [e 1 (by decide), h1]; nofun
  · rw [e 3 (by decide), h3]; nofun
  · rw [e 3 (by decide), h3]; nofun
  · intro _ h; simp at h
  · intro _
    rw [hv]
    exact hown
  · rw [e 1 (by decide), h1]; nofun

end Go.Proofs.Ytkmlnglmecjmeaa
