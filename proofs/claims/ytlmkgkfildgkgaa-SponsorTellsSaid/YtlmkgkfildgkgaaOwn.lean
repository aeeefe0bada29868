import Derived.Test.YtlmkgkfildgkgaaOpens
import Derived.Laws.AppendOwnNone
import Derived.Laws.AppendOwn
import Derived.WalkKit
import Derived.OwnWalkIn
import Derived.Deep.OwnRows
import Derived.BigFrame
/- Slices of one's own whose elements are of several cells: how they read, and what an append leaves. Of no program. No condition but those named. -/
namespace Go.Proofs.Ytlmkgkfildgkgaa
open Go Go.RowKit
set_option linter.unusedVariables false

/-- The k-th cell of elements that all have s cells. -/
theorem flat_get {α : Type} {enc : α → List Value} {s : Nat} (hs : 0 < s) (hl : ∀ a, (enc a).length = s) : ∀ (xs : List α) (i : Nat) (h : i < xs.length) (j : Nat), j < s → (xs.flatMap enc)[i * s + j]? = (enc xs[i])[j]?
  | [], i, h, j, _ => absurd h (by simp)
  | x :: xs, 0, h, j, hj => by
    simp only [List.flatMap_cons, Nat.zero_mul, Nat.zero_add, List.getElem_cons_zero]
    rw [List.getElem?_append_left (by rw [hl]; omega)]
  | x :: xs, i + 1, h, j, hj => by
    have ih := flat_get hs hl xs i (by simpa using h) j hj
    simp only [List.flatMap_cons, List.getElem_cons_succ]
    rw [List.getElem?_append_right (by rw [hl, Nat.succ_mul]; omega), hl, show (i + 1) * s + j - s = i * s + j by rw [Nat.succ_mul]; omega]
    exact ih
theorem flat_len {α : Type} {enc : α → List Value} {s : Nat} (hl : ∀ a, (enc a).length = s) (xs : List α) : (xs.flatMap enc).length = xs.length * s := by
  induction xs with
  | nil => simp
  | cons x xs ih => simp [List.flatMap_cons, hl, ih, Nat.succ_mul]; omega

/-- A row of one's own reads as what lies in it. -/
theorem own_reads {α : Type} {enc : α → List Value} {s : Nat} {R : Rd α} (hR : ∀ n w a, R n w a (enc a)) (hs : 0 < s) (hl : ∀ a, (enc a).length = s) {w : World} {base : Nat} {e : TypeId} {v : Value} {xs : List α} (h : w.ownsRow base e s v xs.length (xs.flatMap enc)) : SliceOf s R w.heap.size w xs [v] := by
  rcases h.2 with ⟨hv, h0⟩ | ⟨g, cap, cur, hv, hb, hg, hc, hm, hz, ht⟩
  · have : xs = [] := List.eq_nil_of_length_eq_zero h0
    subst this hv
    exact ⟨none, 0, rfl, Nat.le_refl _, Nat.zero_le _, fun _ => rfl, fun h => absurd h (by simp)⟩
  · subst hv
    have hgl : g < w.heap.size := by
      rcases Nat.lt_or_ge g w.heap.size with h' | h'
      · exact h'
      · simp [Array.getElem?_eq_none h'] at hg
    refine ⟨some ⟨g, 0, none⟩, cap, rfl, hc, hm, (fun h => by cases h), fun hp => ⟨g, 0, rfl, hgl, fun i hi => ⟨enc xs[i], hl _, fun j hj => ?_, hR _ _ _⟩⟩⟩
    have e1 : w.cell? ⟨g, 0 + i * s + j, none⟩ = cur[0 + i * s + j]? := by simp [World.cell?, hg]
    rw [e1, ← flat_get hs hl xs i hi j hj, ← ht, Nat.zero_add]
    have hlt : i * s + j < xs.length * s := by
      have : (i + 1) * s ≤ xs.length * s := Nat.mul_le_mul_right s (by omega)
      rw [Nat.succ_mul] at this
      omega
    rw [List.getElem?_take_of_lt hlt]
    simp
/-- The cells that lie behind a slice. -/
theorem slice_news {α : Type} {enc : α → List Value} {s : Nat} {R : Rd α} (hR : ∀ n w a cs, R n w a cs → cs = enc a) (hs : 0 < s) (hl : ∀ a, (enc a).length = s) {n : Nat} {w : World} {xs : List α} {ad : Addr} {m c : Nat} (h : SliceOf s R n w xs [.slice (some ad) m c]) :
    m = xs.length ∧ c ≤ maxLen ∧ m ≤ c ∧ ∀ j u, (xs.flatMap enc)[j]? = some u → w.cell? (ad.add j) = some u := by
  obtain ⟨A, cap, e, h1, h2, h3, h4⟩ := h
  simp only [List.cons.injEq, Value.slice.injEq, and_true] at e
  obtain ⟨rfl, rfl, rfl⟩ := e
  refine ⟨rfl, h2, h1, fun j u hu => ?_⟩
  have hj : j < xs.length * s := by rw [← flat_len hl]; exact (List.getElem?_eq_some_iff.1 hu).1
  have hp : 0 < xs.length := by
    rcases Nat.eq_zero_or_pos xs.length with h0 | h0
    · rw [h0, Nat.zero_mul] at hj; omega
    · exact h0
  obtain ⟨b, off, hA, hb, hc⟩ := h4 hp
  have hA : ad = ⟨b, off, none⟩ := by injection hA
  subst hA
  have hi : j / s < xs.length := Nat.div_lt_of_lt_mul (by rw [Nat.mul_comm]; exact hj)
  obtain ⟨es, _, hce, hr⟩ := hc (j / s) hi
  have hr := hR _ _ _ _ hr
  subst hr
  have hjm : j % s < s := Nat.mod_lt _ hs
  have e2 : j / s * s + j % s = j := by rw [Nat.mul_comm]; exact Nat.div_add_mod j s
  have h5 := flat_get hs hl xs (j / s) hi (j % s) hjm
  rw [e2, hu] at h5
  have h6 := hce (j % s) hjm
  rw [← h5, show off + j / s * s + j % s = off + j by omega] at h6
  have e3 : (⟨b, off, none⟩ : Addr).add j = ⟨b, off + j, none⟩ := by
    unfold Addr.add
    by_cases hz : j = 0 <;> simp [hz]
  rw [e3]
  exact h6

/-- append onto a row of one's own, of a slice whatever it is. -/
theorem append_slice {P : Program} {α : Type} {enc : α → List Value} {s : Nat} {R : Rd α} (hR : ∀ n w a cs, R n w a cs → cs = enc a) (hs : 0 < s) (hl : ∀ a, (enc a).length = s) (h1c : ∀ a, ∀ u ∈ enc a, u.oneCell' = true)
    {t e : TypeId} {z : Value} {bytes : Nat} (ht : P.underlying t = some (.slice e)) (hinfo : (P.info? e).map (fun i => (i.zero, i.size, i.bytes)) = some (some z, s, bytes)) (hz : z.cells.size = s)
    {ops : Array Oper} {rest : List Oper} {o : Oper} {a : Act} {Q : Exit → Act → World → Prop} (w : World) (hw : Region.wanted o (yielded ops a.tmps) = true) (so x : Operand)
    (ho : o.op = .call { callee := .builtin .append, args := #[so, x], argTypes := #[t, t] })
    (base : Nat) (v : Value) (n : Nat) (ys : List Value) (hv : a.eval so = v) (hown : w.ownsRow base e s v n ys)
    (n₀ : Nat) (V : Value) (xs : List α) (hx : a.eval x = V) (hL : SliceOf s R n₀ w xs [V]) (h63 : n + xs.length ≤ maxLen) (hb : (n + xs.length) * bytes ≤ 140737488355328) (hbase : base ≤ w.heap.size)
    (h : ∀ v' w', w'.ownsRow base e s v' (n + xs.length) (ys ++ xs.flatMap enc) → w.grownBy w' v.ownBlock → wpList P ops Q rest (a.put o.dst v') w') : wpList P ops Q (o :: rest) a w := by
  obtain ⟨i0, hi, hz0, hz1, hz2⟩ := info_parts hinfo
  refine BigFrame.wpList_want hw fun K hK => ?_
  obtain ⟨A, cap, eV, g1, g2, g3, g4⟩ := id hL
  simp only [List.cons.injEq, and_true] at eV
  subst eV
  cases A with
  | none =>
    have hc := g3 rfl
    subst hc
    have hx0 : xs = [] := List.eq_nil_of_length_eq_zero (by omega)
    subst hx0
    have hrun := run_append_owned_none (P := P) (w := w) base t o.type e i0 s ht hi v n ys hown
    unfold Oper.wp
    simp [execOp, ho, resolve, invoke, builtin, hv, hx, hrun, Result.andThen]
    exact hK _ _ (h v w (by simpa using hown) (World.grownBy.refl w _))
  | some ad =>
    obtain ⟨_, _, _, hn⟩ := slice_news hR hs hl hL
    refine wp_append_own w so x t ho base e i0 z s bytes ht hi hz0 hz1 hz2 hz hs v n ys hv hown ad xs.length cap (xs.flatMap enc) hx (flat_len hl xs) hn ?_ h63 hb hbase ?_
    · intro u hu
      obtain ⟨y, _, hy⟩ := List.mem_flatMap.1 hu
      exact h1c y u hy
    · intro v' w' k1 k2 _
      exact hK _ _ (h v' w' k1 k2)

/-- What owning a row keeps, when nothing but new blocks came. -/
theorem owns_below {w w' : World} {base : Nat} {e : TypeId} {s : Nat} {v : Value} {n : Nat} {ys : List Value} (h : w.ownsRow base e s v n ys) (hb : Below w.heap.size w w') : w'.ownsRow base e s v n ys := by
  refine ⟨h.1, ?_⟩
  rcases h.2 with h1 | ⟨g, cap, cur, hv, hbg, hg, r⟩
  · exact .inl h1
  · have hgl : g < w.heap.size := by
      rcases Nat.lt_or_ge g w.heap.size with h' | h'
      · exact h'
      · simp [Array.getElem?_eq_none h'] at hg
    exact .inr ⟨g, cap, cur, hv, hbg, (hb.block g hgl).trans hg, r⟩
theorem owns_block {w w' : World} {base : Nat} {e : TypeId} {s : Nat} {v : Value} {n : Nat} {ys : List Value} (h : w.ownsRow base e s v n ys) (hb : ∀ g, v.ownBlock = some g → w'.heap[g]? = w.heap[g]?) : w'.ownsRow base e s v n ys := by
  refine ⟨h.1, ?_⟩
  rcases h.2 with h1 | ⟨g, cap, cur, hv, hbg, hg, r⟩
  · exact .inl h1
  · exact .inr ⟨g, cap, cur, hv, hbg, (hb g (by rw [hv]; rfl)).trans hg, r⟩
theorem owns_own {w : World} {base : Nat} {e : TypeId} {s : Nat} {v : Value} {n : Nat} {ys : List Value} (h : w.ownsRow base e s v n ys) : ∀ g, v.ownBlock = some g → base ≤ g ∧ g < w.heap.size := fun g hg => by
  rcases h.2 with ⟨h1, _⟩ | ⟨g', cap, cur, hv, hbg, hg', r⟩
  · subst h1; cases hg
  · subst hv
    have : g' = g := by simpa [Value.ownBlock] using hg
    subst this
    refine ⟨hbg, ?_⟩
    rcases Nat.lt_or_ge g' w.heap.size with h' | h'
    · exact h'
    · simp [Array.getElem?_eq_none h'] at hg'
/-- What an append onto a row of one's own leaves of the world below. -/
theorem grown_below {B : Nat} {w0 w w' : World} (h : Below B w0 w) {row : Option Nat} (hg : w.grownBy w' row) (hrow : ∀ k, row = some k → B ≤ k) (hB : B ≤ w.heap.size) : Below B w0 w' :=
  h.trans ⟨hg.os, hg.tape, hg.output, hg.size, fun k hk => hg.block k (by omega) (fun e => by have := hrow k e.symm; omega)⟩
/-- An empty row, made now. -/
theorem owns_empty (w : World) (t : TypeId) (s : Nat) {base : Nat} (hb : base ≤ w.heap.size) : (w.alloc (.cells #[] t)).ownsRow base t s (.slice (some ⟨w.heap.size, 0, none⟩) 0 0) 0 [] :=
  ⟨by simp, .inr ⟨w.heap.size, 0, #[], rfl, hb, heap_alloc_new w _, Nat.le_refl _, Nat.zero_le _, by simp, by simp⟩⟩
/-- Elements of a slice whose first cells are cut off, or last ones. -/
theorem slice_cut {α : Type} {s : Nat} {R : Rd α} {n : Nat} {w : World} {xs : List α} {A : Option Addr} {m c : Nat} (h : SliceOf s R n w xs [.slice A m c]) (i j : Nat) (hij : i ≤ j) (hj : j ≤ xs.length) : SliceOf s R n w ((xs.drop i).take (j - i)) [sliced A i j c s] := by
  obtain ⟨A', cap, e, h1, h2, h3, h4⟩ := h
  simp only [List.cons.injEq, Value.slice.injEq, and_true] at e
  obtain ⟨rfl, rfl, rfl⟩ := e
  have hlen : ((xs.drop i).take (j - i)).length = j - i := by simp; omega
  refine ⟨if c = i then A else A.map (·.add (i * s)), c - i, by rw [hlen]; rfl, by rw [hlen]; omega, by omega, fun hn => ?_, fun hp => ?_⟩
  · by_cases hc : c = i
    · omega
    · rw [if_neg hc] at hn
      cases A with
      | none => have := h3 rfl; omega
      | some a => cases hn
  · rw [hlen] at hp
    obtain ⟨b, off, rfl, hb, hc⟩ := h4 (by omega)
    have e3 : (⟨b, off, none⟩ : Addr).add (i * s) = ⟨b, off + i * s, none⟩ := by
      unfold Addr.add
      by_cases hz : i * s = 0 <;> simp [hz]
    refine ⟨b, off + i * s, by rw [if_neg (by omega)]; simp [e3], hb, fun k hk => ?_⟩
    obtain ⟨es, g1, g2, g3⟩ := hc (i + k) (by rw [hlen] at hk; omega)
    refine ⟨es, g1, fun q hq => ?_, ?_⟩
    · rw [← g2 q hq, Nat.add_mul]; congr 2; omega
    · simpa using g3

end Go.Proofs.Ytlmkgkfildgkgaa
