import Derived.Test.YtkmlnglmecjmeaaHdS
import Derived.Test.YtkmlnglmecjmeaaOwnNew
import Derived.Test.YtkmlnglmecjmeaaTreeA
import Derived.Test.YtkmlnglmecjmeaaTreeR
import Derived.Test.YtkmlnglmecjmeaaLens
/- What members tell, as it lies in memory: its heads, appended, cut; rows of things told. Condition: those that each theorem names. -/
namespace Go.Proofs.Ytkmlnglmecjmeaa
open Go Go.RowKit
set_option linter.unusedVariables false

/-- A row of things that each are, in a world, what another row says. -/
def Pairs {α β : Type} (R : Nat → World → α → β → Prop) (n : Nat) (w : World) (hs : List α) (xs : List β) : Prop := hs.length = xs.length ∧ ∀ (i : Nat) (h : α) (x : β), hs[i]? = some h → xs[i]? = some x → R n w h x
theorem Pairs.nil {α β : Type} (R : Nat → World → α → β → Prop) (n : Nat) (w : World) : Pairs R n w [] [] := ⟨rfl, fun i a x h1 _ => by simp at h1⟩
theorem Pairs.append {α β : Type} {R : Nat → World → α → β → Prop} {n : Nat} {w : World} {hs hs' : List α} {xs xs' : List β} (h : Pairs R n w hs xs) (h' : Pairs R n w hs' xs') : Pairs R n w (hs ++ hs') (xs ++ xs') := by
  refine ⟨by simp [h.1, h'.1], fun i a x h1 h2 => ?_⟩
  by_cases hi : i < hs.length
  · rw [List.getElem?_append_left hi] at h1
    rw [List.getElem?_append_left (by rw [← h.1]; exact hi)] at h2
    exact h.2 i a x h1 h2
  · rw [List.getElem?_append_right (by omega)] at h1
    rw [List.getElem?_append_right (by rw [← h.1]; omega), ← h.1] at h2
    exact h'.2 _ a x h1 h2
theorem Pairs.take {α β : Type} {R : Nat → World → α → β → Prop} {n : Nat} {w : World} {hs : List α} {xs : List β} (h : Pairs R n w hs xs) (k : Nat) : Pairs R n w (hs.take k) (xs.take k) := by
  refine ⟨by simp [h.1], fun i a x h1 h2 => ?_⟩
  rw [List.getElem?_take] at h1 h2
  by_cases hi : i < k
  · rw [if_pos hi] at h1 h2
    exact h.2 i a x h1 h2
  · rw [if_neg hi] at h1; cases h1
theorem Pairs.drop {α β : Type} {R : Nat → World → α → β → Prop} {n : Nat} {w : World} {hs : List α} {xs : List β} (h : Pairs R n w hs xs) (k : Nat) : Pairs R n w (hs.drop k) (xs.drop k) := by
  refine ⟨by simp [h.1], fun i a x h1 h2 => ?_⟩
  rw [List.getElem?_drop] at h1 h2
  exact h.2 _ a x h1 h2
theorem Pairs.one {α β : Type} {R : Nat → World → α → β → Prop} {n : Nat} {w : World} {h : α} {x : β} (hx : R n w h x) : Pairs R n w [h] [x] := by
  refine ⟨rfl, fun i a y h1 h2 => ?_⟩
  cases i with
  | zero =>
    simp at h1 h2
    subst h1 h2
    exact hx
  | succ i => simp at h1
theorem Pairs.get {α β : Type} {R : Nat → World → α → β → Prop} {n : Nat} {w : World} {hs : List α} {xs : List β} (h : Pairs R n w hs xs) (i : Nat) (h1 : i < hs.length) (h2 : i < xs.length) : R n w hs[i] xs[i] :=
  h.2 i _ _ (List.getElem?_eq_getElem h1) (List.getElem?_eq_getElem h2)

/-- The head of what a member tells. -/
structure FH where
  who : Int × Int
  old : Int × Int × Int
  str : Hd
  id : Int × Int × Int
  tree : Hd
  want : Bool
abbrev fhC (h : FH) : List Value := [.int .i64 h.who.1, .int .i64 h.who.2, .int .i64 h.old.1, .int .i64 h.old.2.1, .int .i64 h.old.2.2, .slice h.str.1 h.str.2.1 h.str.2.2, .int .i64 h.id.1, .int .i64 h.id.2.1, .int .i64 h.id.2.2, .slice h.tree.1 h.tree.2.1 h.tree.2.2, .bool h.want]
def IsFH : Rd FH := fun _ _ h cs => cs = fhC h
theorem keeps_FH : Keeps IsFH := fun _ _ _ _ _ _ h _ _ => h
abbrev FHs : Rd (List FH) := SliceOf 11 IsFH
theorem keeps_fhs : Keeps FHs := keeps_slice keeps_FH
theorem oneFH (a : FH) : ∀ u ∈ fhC a, u.oneCell' = true := by
  intro u hu
  simp at hu
  rcases hu with rfl | rfl | rfl | rfl | rfl | rfl | rfl | rfl | rfl | rfl | rfl <;> rfl
abbrev infoFt : Prop := (Try.prog.info? 36).map (fun i => (i.zero, i.size, i.bytes)) = some (some (.agg #[.int .i64 0, .int .i64 0, .int .i64 0, .int .i64 0, .int .i64 0, .slice none 0 0, .int .i64 0, .int .i64 0, .int .i64 0, .slice none 0 0, .bool false]), 11, 120)
theorem infoF : infoFt := by unfold infoFt; kernel_rfl
/-- append onto one's own. -/
theorem append_fhs {ops : Array Oper} {rest : List Oper} {o : Oper} {a : Act} {Q : Exit → Act → World → Prop} (w : World) (hw : Region.wanted o (yielded ops a.tmps) = true) (so x : Operand)
    (ho : o.op = .call { callee := .builtin .append, args := #[so, x], argTypes := #[24, 24] })
    (base : Nat) (v : Value) (n : Nat) (ys : List Value) (hv : a.eval so = v) (hown : w.ownsRow base 36 11 v n ys)
    (n₀ : Nat) (V : Value) (xs : List FH) (hx : a.eval x = V) (hL : FHs n₀ w xs [V]) (hb : n + xs.length ≤ 1000000) (hbase : base ≤ w.heap.size)
    (h : ∀ v' w', w'.ownsRow base 36 11 v' (n + xs.length) (ys ++ xs.flatMap fhC) → w.grownBy w' v.ownBlock → wpList Try.prog ops Q rest (a.put o.dst v') w') : wpList Try.prog ops Q (o :: rest) a w :=
  append_slice (enc := fhC) (s := 11) (R := IsFH) (fun _ _ _ _ h => h) (by decide) (fun _ => rfl) oneFH Try.underlying24 infoF rfl w hw so x ho base v n ys hv hown n₀ V xs hx hL (Nat.le_trans hb (by decide)) (by omega) hbase h
theorem own_fhs {w : World} {base : Nat} {v : Value} {xs : List FH} (h : w.ownsRow base 36 11 v xs.length (xs.flatMap fhC)) : FHs w.heap.size w xs [v] := own_reads (enc := fhC) (s := 11) (R := IsFH) (fun _ _ _ => rfl) (by decide) (fun _ => rfl) h
theorem fhs_at {n : Nat} {w : World} {hs : List FH} {v : Value} (h : FHs n w hs [v]) :
    ∃ A cap, v = .slice A hs.length cap ∧ hs.length ≤ cap ∧ cap ≤ maxLen ∧ ∀ i, (hi : i < hs.length) → ∃ b off, A = some ⟨b, off, none⟩ ∧ b < n ∧ ∀ j u, (fhC hs[i])[j]? = some u → w.cell? ⟨b, off + i * 11 + j, none⟩ = some u := by
  obtain ⟨A, cap, e, h1, h2, _, h3⟩ := h
  simp only [List.cons.injEq, and_true] at e
  refine ⟨A, cap, e, h1, h2, fun i hi => ?_⟩
  obtain ⟨b, off, rfl, hb, hc⟩ := h3 (by omega)
  obtain ⟨es, hl, hcell, hr⟩ := hc i hi
  have hr : es = _ := hr
  subst hr
  refine ⟨b, off, rfl, hb, fun j u hj => ?_⟩
  have hlt : j < 11 := by rw [← hl]; exact (List.getElem?_eq_some_iff.1 hj).1
  rw [hcell j hlt, hj]
theorem fhs_len {n : Nat} {w : World} {hs : List FH} {v : Value} (h : FHs n w hs [v]) (m : Nat) (hm : hs.length = m) : ∃ A cap, v = .slice A m cap ∧ m ≤ cap ∧ cap ≤ 9223372036854775807 := by
  obtain ⟨A, cap, e, h1, h2, _⟩ := fhs_at h
  subst hm
  exact ⟨A, cap, e, h1, Nat.le_trans h2 (by decide)⟩
theorem fhs_some {n : Nat} {w : World} {hs : List FH} {v : Value} (h : FHs n w hs [v]) : ∃ A m c, v = .slice A m c := by
  obtain ⟨A, cap, e, _⟩ := fhs_at h
  exact ⟨A, _, cap, e⟩
/-- One, laid by itself. -/
theorem one_fh (w : World) (h : FH) (t : TypeId) (g : Nat) (hg : w.heap.size = g) (cs : Array Value) (hc : cs = (fhC h).toArray) : FHs (g + 1) (w.alloc (.cells cs t)) [h] [.slice (some ⟨g, 0, none⟩) 1 1] := by
  subst hg hc
  exact ⟨some ⟨w.heap.size, 0, none⟩, 1, rfl, Nat.le_refl _, by decide, (fun h => by cases h), fun _ => ⟨w.heap.size, 0, rfl, by omega, fun i hi => ⟨fhC h, rfl, fun j hj => by
    have : i = 0 := by simpa using hi
    subst this
    have e : (w.alloc (.cells (fhC h).toArray t)).cell? ⟨w.heap.size, 0 + 0 * 11 + j, none⟩ = (fhC h).toArray[0 + 0 * 11 + j]? := by simp only [World.cell?, heap_alloc_new]; rfl
    rw [e]
    simp, by
    have : i = 0 := by simpa using hi
    subst this
    rfl⟩⟩⟩
set_option maxRecDepth 100000 in
/-- The first ones; those from one on. -/
theorem fhs_to {n : Nat} {w : World} {hs : List FH} {A : Option Addr} {m cap : Nat} (h : FHs n w hs [.slice A m cap]) (hm : hs.length = m) (hc : m ≤ cap) (j : Nat) (hj : j ≤ m) :
    ∃ A', (∀ wx, (Instr.slice 24 (.slice A m cap) none (some (.int .i64 (j : Int))) none).run Try.prog wx = .ok (.slice A' j cap) wx) ∧ FHs n w (hs.take j) [.slice A' j cap] := by
  subst hm
  have hS := slice_cut h 0 j (Nat.zero_le _) hj
  obtain ⟨A', e⟩ := sliced_is A 0 j cap 11
  rw [Nat.sub_zero, Nat.sub_zero] at e
  refine ⟨A', fun wx => ?_, ?_⟩
  · rw [run_slice_h _ _ _ _ _ Try.underlying24 _ _ (by omega) (by omega)]
    have es : (sizeOf (Try.prog.elem 24)).run Try.prog wx = .ok 11 wx := Try.sizeOf36 wx
    rw [es]
    simp only [Result.andThen, Int.toNat_natCast, e]
  · rw [e, Nat.sub_zero, List.drop_zero] at hS
    exact hS
set_option maxRecDepth 100000 in
theorem fhs_from {n : Nat} {w : World} {hs : List FH} {A : Option Addr} {m cap : Nat} (h : FHs n w hs [.slice A m cap]) (hm : hs.length = m) (i : Nat) (hi : i ≤ m) :
    ∃ A', (∀ wx, (Instr.slice 24 (.slice A m cap) (some (.int .i64 (i : Int))) none none).run Try.prog wx = .ok (.slice A' (m - i) (cap - i)) wx) ∧ FHs n w (hs.drop i) [.slice A' (m - i) (cap - i)] := by
  subst hm
  have hS := slice_cut h i hs.length hi (Nat.le_refl _)
  obtain ⟨A', e⟩ := sliced_is A i hs.length cap 11
  refine ⟨A', fun wx => ?_, ?_⟩
  · rw [run_slice_l _ _ _ _ _ Try.underlying24 _ _ (by omega) (by omega)]
    have es : (sizeOf (Try.prog.elem 24)).run Try.prog wx = .ok 11 wx := Try.sizeOf36 wx
    rw [es]
    simp only [Result.andThen, Int.toNat_natCast, e]
  · rw [e, List.take_of_length_le (by simp)] at hS
    exact hS

/-- Some, laid as they stand. -/
theorem laid_own (w : World) (hs : List FH) (hn : hs.length ≤ 1000) (cs : Array Value) (hc : cs = (hs.flatMap fhC).toArray) (base : Nat) (hb : base ≤ w.heap.size) :
    (w.alloc (.cells cs 36)).ownsRow base 36 11 (.slice (some ⟨w.heap.size, 0, none⟩) hs.length hs.length) hs.length (hs.flatMap fhC) := by
  subst hc
  have hl : (hs.flatMap fhC).length = hs.length * 11 := flat_len (enc := fhC) (s := 11) (fun _ => rfl) hs
  exact ⟨hl, .inr ⟨w.heap.size, hs.length, (hs.flatMap fhC).toArray, rfl, hb, heap_alloc_new w _, Nat.le_refl _, Nat.le_trans hn (by decide), by simpa using hl, by rw [List.toList_toArray, ← hl, List.take_length]⟩⟩

/-- append onto one's own, as it runs. -/
theorem run_append_fhs_then {o : Oper} {a : Act} {C : Value → World → Prop} (w : World) (so x : Operand)
    (ho : o.op = .call { callee := .builtin .append, args := #[so, x], argTypes := #[24, 24] })
    (base : Nat) (v : Value) (n : Nat) (ys : List Value) (hv : a.eval so = v) (hown : w.ownsRow base 36 11 v n ys)
    (n₀ : Nat) (V : Value) (xs : List FH) (hx : a.eval x = V) (hL : FHs n₀ w xs [V]) (hb : n + xs.length ≤ 1000000) (hbase : base ≤ w.heap.size)
    (hC : ∀ v' w', w'.ownsRow base 36 11 v' (n + xs.length) (ys ++ xs.flatMap fhC) → w.grownBy w' v.ownBlock → C v' w') :
    ∃ v' w', (execOp a.eval o).run Try.prog w = .ok (.value v') w' ∧ C v' w' := by
  obtain ⟨v', w', h1, h2, h3, -⟩ := run_append_new (enc := fhC) (s := 11) (R := IsFH) (fun _ _ _ _ h => h) (by decide) (fun _ => rfl) oneFH Try.underlying24 infoF rfl w so x ho base v n ys hv hown n₀ V xs hx hL (Nat.le_trans hb (by decide)) (by omega) hbase
  exact ⟨v', w', h1, hC v' w' h2 h3⟩
set_option maxRecDepth 100000 in
/-- The first members. -/
theorem mems_to {n : Nat} {w : World} {ms : List (Int × Int)} {A : Option Addr} {m cap : Nat} (h : Mems n w ms [.slice A m cap]) (hm : ms.length = m) (hc : m ≤ cap) (j : Nat) (hj : j ≤ m) :
    ∃ A', (∀ wx, (Instr.slice 22 (.slice A m cap) none (some (.int .i64 (j : Int))) none).run Try.prog wx = .ok (.slice A' j cap) wx) ∧ Mems n w (ms.take j) [.slice A' j cap] := by
  subst hm
  have hS := slice_cut h 0 j (Nat.zero_le _) hj
  obtain ⟨A', e⟩ := sliced_is A 0 j cap 2
  rw [Nat.sub_zero, Nat.sub_zero] at e
  refine ⟨A', fun wx => ?_, ?_⟩
  · rw [run_slice_h _ _ _ _ _ Try.underlying22 _ _ (by omega) (by omega)]
    have es : (sizeOf (Try.prog.elem 22)).run Try.prog wx = .ok 2 wx := Try.sizeOf27 wx
    rw [es]
    simp only [Result.andThen, Int.toNat_natCast, e]
  · rw [e, Nat.sub_zero, List.drop_zero] at hS
    exact hS

/-- Where a slice begins. -/
def firstPtr : Value → Value
  | .slice (some ⟨b, o, none⟩) _ _ => .pointer (some ⟨b, o, none⟩)
  | _ => undef
theorem mems_first {n : Nat} {w : World} {m : Int × Int} {r : List (Int × Int)} {v : Value} (h : Mems n w (m :: r) [v]) :
    ∃ b o c, v = .slice (some ⟨b, o, none⟩) (r.length + 1) c ∧ b < n ∧ w.cell? ⟨b, o, none⟩ = some (.int .i64 m.1) ∧ w.cell? ⟨b, o + 1, none⟩ = some (.int .i64 m.2) := by
  obtain ⟨A, cap, e, _, _, hp⟩ := mems_at h
  obtain ⟨b, o, rfl, hb, h0, h1⟩ := hp 0 (by simp)
  exact ⟨b, o, cap, e, hb, by simpa using h0, by simpa using h1⟩

end Go.Proofs.Ytkmlnglmecjmeaa
