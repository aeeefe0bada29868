import Derived.Test.YtjnefacdindamaaGreatDoorExpD
import Derived.Test.YtjnefacdindamaaGreatDoorOwnNew
/- Secrets of one's own: appended one by one, and all of another slice; what is kept of a loop over members. Condition: the slices read so; no more than 2^47 bytes in all. -/
namespace Go.Proofs.YtjnefacdindamaaGreatDoor
open Go Go.RowKit
set_option linter.unusedVariables false
set_option maxRecDepth 100000

theorem oneD (a : Dr) : ∀ u ∈ dC a, u.oneCell' = true := by intro u hu; simp at hu; rcases hu with rfl | rfl | rfl | rfl <;> rfl
abbrev infoDt : Prop := (Tryz.prog.info? 41).map (fun i => (i.zero, i.size, i.bytes)) = some (some (.agg #[.int .i64 0, .int .i64 0, .string ByteArray.empty, .int .i64 0]), 4, 40)
theorem infoD : infoDt := by unfold infoDt; kernel_rfl
theorem few_draws {n m : Nat} (h : (n + m) * 40 ≤ 140737488355328) : n + m ≤ maxLen := Nat.le_trans (show n + m ≤ 140737488355328 by omega) (by decide)
/-- append onto secrets of one's own. -/
theorem append_draws {ops : Array Oper} {rest : List Oper} {o : Oper} {a : Act} {Q : Exit → Act → World → Prop} (w : World) (hw : Region.wanted o (yielded ops a.tmps) = true) (so x : Operand)
    (ho : o.op = .call { callee := .builtin .append, args := #[so, x], argTypes := #[23, 23] })
    (base : Nat) (v : Value) (n : Nat) (ys : List Value) (hv : a.eval so = v) (hown : w.ownsRow base 41 4 v n ys)
    (n₀ : Nat) (V : Value) (xs : List Dr) (hx : a.eval x = V) (hL : Draws n₀ w xs [V]) (hb : (n + xs.length) * 40 ≤ 140737488355328) (hbase : base ≤ w.heap.size)
    (h : ∀ v' w', w'.ownsRow base 41 4 v' (n + xs.length) (ys ++ xs.flatMap dC) → w.grownBy w' v.ownBlock → wpList Tryz.prog ops Q rest (a.put o.dst v') w') : wpList Tryz.prog ops Q (o :: rest) a w :=
  append_slice (enc := dC) (s := 4) (R := IsD) (fun _ _ _ _ h => h.1) (by decide) (fun _ => rfl) oneD Tryz.underlying23 infoD rfl w hw so x ho base v n ys hv hown n₀ V xs hx hL (few_draws hb) hb hbase h
/-- The same, as it runs. -/
theorem run_append_draws_then {o : Oper} {a : Act} {C : Value → World → Prop} (w : World) (so x : Operand)
    (ho : o.op = .call { callee := .builtin .append, args := #[so, x], argTypes := #[23, 23] })
    (base : Nat) (v : Value) (n : Nat) (ys : List Value) (hv : a.eval so = v) (hown : w.ownsRow base 41 4 v n ys)
    (n₀ : Nat) (V : Value) (xs : List Dr) (hx : a.eval x = V) (hL : Draws n₀ w xs [V]) (hb : (n + xs.length) * 40 ≤ 140737488355328) (hbase : base ≤ w.heap.size)
    (hC : ∀ v' w', w'.ownsRow base 41 4 v' (n + xs.length) (ys ++ xs.flatMap dC) → w.grownBy w' v.ownBlock → C v' w') :
    ∃ v' w', (execOp a.eval o).run Tryz.prog w = .ok (.value v') w' ∧ C v' w' := by
  obtain ⟨v', w', h1, h2, h3, -⟩ := run_append_new (enc := dC) (s := 4) (R := IsD) (fun _ _ _ _ h => h.1) (by decide) (fun _ => rfl) oneD Tryz.underlying23 infoD rfl w so x ho base v n ys hv hown n₀ V xs hx hL (few_draws hb) hb hbase
  exact ⟨v', w', h1, hC v' w' h2 h3⟩
/-- One's own secrets read as what lies in them, none of them longer than a text may be. -/
theorem own_draws {w : World} {base : Nat} {v : Value} {xs : List Dr} (hlen : ∀ d ∈ xs, d.2.1.length ≤ maxLen) (h : w.ownsRow base 41 4 v xs.length (xs.flatMap dC)) : Draws w.heap.size w xs [v] := by
  obtain ⟨A, cap, e, h1, h2, h3, h4⟩ := own_reads (enc := dC) (s := 4) (R := fun _ _ d cs => cs = dC d) (fun _ _ _ => rfl) (by decide) (fun _ => rfl) h
  refine ⟨A, cap, e, h1, h2, h3, fun hp => ?_⟩
  obtain ⟨b, off, hA, hb, hc⟩ := h4 hp
  refine ⟨b, off, hA, hb, fun i hi => ?_⟩
  obtain ⟨es, g1, g2, g3⟩ := hc i hi
  exact ⟨es, g1, g2, g3, hlen _ (List.getElem_mem hi)⟩
/-- One secret, laid by itself. -/
theorem one_draw (w : World) (d : Dr) (t : TypeId) (g : Nat) (hg : w.heap.size = g) (hl : d.2.1.length ≤ maxLen) : Draws (g + 1) (w.alloc (.cells #[.int .i64 d.1.1, .int .i64 d.1.2, .string (tx d.2.1), .int .i64 d.2.2] t)) [d] [.slice (some ⟨g, 0, none⟩) 1 1] := by
  subst hg
  exact ⟨some ⟨w.heap.size, 0, none⟩, 1, rfl, Nat.le_refl _, by decide, (fun h => by cases h), fun _ => ⟨w.heap.size, 0, rfl, by omega, fun i hi => ⟨dC d, rfl, fun j hj => by
    have : i = 0 := by simpa using hi
    subst this
    simp, by
    have : i = 0 := by simpa using hi
    subst this
    exact ⟨rfl, hl⟩⟩⟩⟩
theorem draws_lens {n : Nat} {w : World} {ds : List Dr} {v : Value} (h : Draws n w ds [v]) : ∀ d ∈ ds, d.2.1.length ≤ maxLen := fun d hd => by
  obtain ⟨i, hi, rfl⟩ := List.getElem_of_mem hd
  obtain ⟨_, _, e, _, _, _, h3⟩ := h
  obtain ⟨b, off, _, _, hc⟩ := h3 (by omega)
  obtain ⟨es, _, _, hr⟩ := hc i hi
  exact hr.2
theorem ownD_len (ds : List Dr) (ms : List (Int × Int)) : (ownD ds ms).length = ms.length := List.length_map ..
theorem ownD_step (ds : List Dr) (ms : List (Int × Int)) (k : Nat) (h : k < ms.length) : ownD ds (ms.take (k + 1)) = ownD ds (ms.take k) ++ [(ms[k], secL ds ms[k], 0)] := by
  unfold ownD
  rw [List.take_succ_eq_append_getElem h, List.map_append]
  rfl
/-- Has each of the first k one? -/
def allD (ds : List Dr) (ms : List (Int × Int)) (k : Nat) : Bool := decide (∀ m ∈ ms.take k, secL ds m ≠ [])
theorem allD_none (ds : List Dr) (ms : List (Int × Int)) : allD ds ms 0 = true := by simp [allD]
theorem allD_yes (ds : List Dr) (ms : List (Int × Int)) (k : Nat) (h : k < ms.length) (hs : secL ds ms[k] ≠ []) : allD ds ms (k + 1) = allD ds ms k := by
  unfold allD
  rw [List.take_succ_eq_append_getElem h, Bool.eq_iff_iff]
  simp only [decide_eq_true_eq, List.mem_append, List.mem_singleton]
  exact ⟨fun g m hm => g m (Or.inl hm), fun g m hm => by rcases hm with hm | rfl; exact g m hm; exact hs⟩
theorem allD_no (ds : List Dr) (ms : List (Int × Int)) (k : Nat) (h : k < ms.length) (hs : secL ds ms[k] = []) : allD ds ms (k + 1) = false := by
  unfold allD
  rw [List.take_succ_eq_append_getElem h]
  exact decide_eq_false fun g => g ms[k] (List.mem_append_right _ (List.mem_singleton.2 rfl)) hs
theorem allD_end {ds : List Dr} {ms : List (Int × Int)} {k : Nat} (hk : ms.length ≤ k) : allD ds ms k = decide (∀ m ∈ ms, secL ds m ≠ []) := by
  unfold allD
  rw [List.take_of_length_le hk]

end Go.Proofs.YtjnefacdindamaaGreatDoor
