import Derived.Test.YtkmlnglmecjmeaaTreeA
import Derived.Laws.AppendOwn
/- append onto a slice of one's own: it stays in its block, or it comes to lie in a new one. Of no program. Condition: as the theorem names them. -/
namespace Go.Proofs.Ytkmlnglmecjmeaa
open Go Go.RowKit
set_option linter.unusedVariables false

section
variable {P : Program} {w : World}
theorem append_block (base : Nat) (t ty e : TypeId) (i : TypeInfo) (z : Value) (size bytes : Nat) (ht : P.underlying t = some (.slice e)) (hi : P.info? e = some i) (hz : i.zero = some z)
    (hsize : i.size = size) (hby : i.bytes = bytes) (v : Value) (n : Nat) (xs : List Value) (hown : w.ownsRow base e size v n xs)
    (a : Addr) (m c : Nat) (news : List Value) (hl : news.length = m * size) (hnews : ∀ j u, news[j]? = some u → w.cell? (a.add j) = some u) (h1 : ∀ u ∈ news, u.oneCell' = true)
    (h63 : n + m ≤ maxLen) (hbytes : (n + m) * bytes ≤ 140737488355328) {v' : Value} {w' : World} (hrun : (Builtin.append_ #[t, t] ty #[v, .slice (some a) m c]).run P w = .ok v' w') :
    v'.ownBlock = v.ownBlock ∨ v'.ownBlock = some w.heap.size := by
  subst hsize
  subst hby
  have hsmall : n + m ≤ 9223372036854775807 := by simp only [maxLen] at h63; omega
  rcases hown.2 with ⟨rfl, rfl⟩ | ⟨g, cap, cur, rfl, hbg, hg, hnc, hcm, hcs, htake⟩
  · have hx : xs = [] := List.eq_nil_of_length_eq_zero (by simpa using hown.1)
    subst hx
    by_cases hm : m = 0
    · subst hm
      left
      simp [Builtin.append_, run_underlying ht, sizeOf, typeInfo, hi, Builtin.lenOf, Builtin.firstCells, loadCells, loadCellsFrom] at hrun
      rw [← hrun.1]
    · right
      have hr := run_append_nil (P := P) w t ty e i z ht hi hz a m c news hl hnews (by omega) (by omega) (by have hb := hbytes; simp only [Nat.zero_add] at hb; omega)
      rw [hr] at hrun
      injection hrun with h2 _
      rw [← h2]
      rfl
  · by_cases hroom : n + m ≤ cap
    · left
      have hfit : n * i.size + news.length ≤ cur.size := by rw [hl, hcs, ← Nat.add_mul]; exact Nat.mul_le_mul_right _ hroom
      have hr := run_append_room (P := P) w t ty e i ht hi g n cap cur hg a m c news hl hnews h1 hroom hfit
      rw [hr] at hrun
      injection hrun with h2 _
      rw [← h2]
      rfl
    · right
      have holds : ∀ j u, xs[j]? = some u → w.cell? ((⟨g, 0, none⟩ : Addr).add j) = some u := hown.cells (g := g) rfl
      have hr := run_append_grow (P := P) w t ty e i z ht hi hz ⟨g, 0, none⟩ n cap xs hown.1 holds a m c news hl hnews (by omega) (by omega) (growslice_fits (by omega) hbytes)
      rw [hr] at hrun
      injection hrun with h2 _
      rw [← h2]
      rfl
end
/-- append onto a slice of one's own, as it runs, and where it then lies. -/
theorem run_append_new {P : Program} {α : Type} {enc : α → List Value} {s : Nat} {R : Rd α} (hR : ∀ n w a cs, R n w a cs → cs = enc a) (hs : 0 < s) (hl : ∀ a, (enc a).length = s) (h1c : ∀ a, ∀ u ∈ enc a, u.oneCell' = true)
    {t e : TypeId} {z : Value} {bytes : Nat} (ht : P.underlying t = some (.slice e)) (hinfo : (P.info? e).map (fun i => (i.zero, i.size, i.bytes)) = some (some z, s, bytes)) (hz : z.cells.size = s)
    {o : Oper} {a : Act} (w : World) (so x : Operand)
    (ho : o.op = .call { callee := .builtin .append, args := #[so, x], argTypes := #[t, t] })
    (base : Nat) (v : Value) (n : Nat) (ys : List Value) (hv : a.eval so = v) (hown : w.ownsRow base e s v n ys)
    (n₀ : Nat) (V : Value) (xs : List α) (hx : a.eval x = V) (hL : SliceOf s R n₀ w xs [V]) (h63 : n + xs.length ≤ maxLen) (hb : (n + xs.length) * bytes ≤ 140737488355328) (hbase : base ≤ w.heap.size) :
    ∃ v' w', (execOp a.eval o).run P w = .ok (.value v') w' ∧ w'.ownsRow base e s v' (n + xs.length) (ys ++ xs.flatMap enc) ∧ w.grownBy w' v.ownBlock ∧ (v'.ownBlock = v.ownBlock ∨ v'.ownBlock = some w.heap.size) := by
  obtain ⟨i0, hi, hz0, hz1, hz2⟩ := info_parts hinfo
  obtain ⟨A, cap, eV, g1, g2, g3, g4⟩ := id hL
  simp only [List.cons.injEq, and_true] at eV
  subst eV
  cases A with
  | none =>
    have hc := g3 rfl
    subst hc
    have hx0 : xs = [] := List.eq_nil_of_length_eq_zero (by omega)
    subst hx0
    have hrun := run_append_owned_none (P := P) (w := w) base t o.type e i0 s ht hi v n ys hown
    refine ⟨v, w, ?_, by simpa using hown, World.grownBy.refl w _, Or.inl rfl⟩
    simp [execOp, ho, resolve, invoke, builtin, hv, hx, hrun, Result.andThen]
  | some ad =>
    obtain ⟨_, _, _, hn⟩ := slice_news hR hs hl hL
    have h1 : ∀ u ∈ xs.flatMap enc, u.oneCell' = true := fun u hu => by
      obtain ⟨b, _, hb⟩ := List.mem_flatMap.1 hu
      exact h1c b u hb
    obtain ⟨v', w', hr, h2, h3, h4⟩ := run_append_own (P := P) w base t o.type e i0 z s bytes ht hi hz0 hz1 hz2 hz hs v n ys hown ad xs.length cap (xs.flatMap enc) (flat_len hl xs) hn h1 h63 hb hbase
    refine ⟨v', w', ?_, h2, h3, append_block base t o.type e i0 z s bytes ht hi hz0 hz1 hz2 v n ys hown ad xs.length cap (xs.flatMap enc) (flat_len hl xs) hn h1 h63 hb hr⟩
    unfold execOp
    simp only [ho, resolve, invoke, builtin, Sem.run_bind, Sem.run_pure, Result.andThen_ok, List.map_toArray, List.map_cons, List.map_nil, hv, hx, hr]
/-- As a step of a walk. -/
theorem append_new {P : Program} {α : Type} {enc : α → List Value} {s : Nat} {R : Rd α} (hR : ∀ n w a cs, R n w a cs → cs = enc a) (hs : 0 < s) (hl : ∀ a, (enc a).length = s) (h1c : ∀ a, ∀ u ∈ enc a, u.oneCell' = true)
    {t e : TypeId} {z : Value} {bytes : Nat} (ht : P.underlying t = some (.slice e)) (hinfo : (P.info? e).map (fun i => (i.zero, i.size, i.bytes)) = some (some z, s, bytes)) (hz : z.cells.size = s)
    {ops : Array Oper} {rest : List Oper} {o : Oper} {a : Act} {Q : Exit → Act → World → Prop} (w : World) (hw : Region.wanted o (yielded ops a.tmps) = true) (so x : Operand)
    (ho : o.op = .call { callee := .builtin .append, args := #[so, x], argTypes := #[t, t] })
    (base : Nat) (v : Value) (n : Nat) (ys : List Value) (hv : a.eval so = v) (hown : w.ownsRow base e s v n ys)
    (n₀ : Nat) (V : Value) (xs : List α) (hx : a.eval x = V) (hL : SliceOf s R n₀ w xs [V]) (h63 : n + xs.length ≤ maxLen) (hb : (n + xs.length) * bytes ≤ 140737488355328) (hbase : base ≤ w.heap.size)
    (h : ∀ v' w', w'.ownsRow base e s v' (n + xs.length) (ys ++ xs.flatMap enc) → w.grownBy w' v.ownBlock → (v'.ownBlock = v.ownBlock ∨ v'.ownBlock = some w.heap.size) → wpList P ops Q rest (a.put o.dst v') w') : wpList P ops Q (o :: rest) a w := by
  obtain ⟨v', w', hrun, h1, h2, h3⟩ := run_append_new hR hs hl h1c ht hinfo hz (o := o) (a := a) w so x ho base v n ys hv hown n₀ V xs hx hL h63 hb hbase
  refine BigFrame.wpList_want hw fun K hK => ?_
  unfold Oper.wp
  rw [hrun]
  exact hK _ _ (h v' w' h1 h2 h3)

end Go.Proofs.Ytkmlnglmecjmeaa
