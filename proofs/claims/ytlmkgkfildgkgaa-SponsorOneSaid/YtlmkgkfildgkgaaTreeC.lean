import Derived.Test.YtlmkgkfildgkgaaTreeL
import Derived.Lib.AppendZeros
import Derived.Lib.SliceRun
/- Trees joined and copied: slices.Clone, Grow, Concat at spots; Leaf and Join of lodge/tree, leaf of the law. Condition: the slices read as spots, of at most a million together. -/
namespace Go.Proofs.Ytlmkgkfildgkgaa
open Go Go.RowKit
set_option linter.unusedVariables false

set_option maxRecDepth 100000 in
set_option maxHeartbeats 4000000 in
theorem cloneS_any (v : Value) (xs : List Sp) (w : World) (h : Spots w.heap.size w xs [v]) (hn : xs.length ≤ 1000000) :
    Calls Try.prog 32 #[v] w fun e W' => ∃ v', e = .returned v' ∧ Spots W'.heap.size W' xs [v'] ∧ Below w.heap.size w W' := by
  have q22 : ∀ (w : World) (a : Option Addr) (n c n' c' : Nat), (binOp .eql 22 (.slice a n c) (.slice none n' c')).run Try.prog w = .ok (.bool a.isNone) w := fun w a n c n' c' => Lib.run_eql_slice_nil w _ _ a n c n' c' Try.underlying22
  have HM := Lib.hid h
  obtain ⟨A, cap, rfl, hlc, hcm, _⟩ := spots_at h
  have hcm2 : cap ≤ 9223372036854775807 := Nat.le_trans hcm (by decide)
  cases A with
  | none =>
    obtain ⟨_, _, e, _, _, h0, _⟩ := h
    simp only [List.cons.injEq, Value.slice.injEq, and_true] at e
    obtain ⟨rfl, _, rfl⟩ := e
    have hc := h0 rfl
    subst hc
    have hx : xs = [] := List.eq_nil_of_length_eq_zero (by omega)
    subst hx
    go_enter Try.func32, Try.ntmps32
    go_wp2
    go_ret
    exact ⟨_, rfl, own_spots (World.ownsRow_nil _ w.heap.size _ _), Below.refl _ _⟩
  | some ad =>
    clear h hcm
    go_enter Try.func32, Try.ntmps32
    go_wp2_with (at_builtin; refine append_spots _ rfl _ _ rfl w.heap.size _ _ _ rfl (owns_empty w 41 3 (Nat.le_refl _)) w.heap.size _ xs rfl (keeps_spots _ _ _ _ _ _ HM.out (below_new w _) (Nat.le_refl _)) ?c1 ?c2 ?_)
    case c1 => omega
    case c2 => simp
    intro v' w' hown' hgr
    have B2 := ((Below.refl w.heap.size w).alloc (Nat.le_refl _) (.cells #[] 41)).grown hgr (by simp) (by intro k hk; simp [Value.ownBlock] at hk; omega)
    go_wp2
    go_ret
    exact ⟨_, rfl, own_spots hown', B2⟩


/-- A slice of slices of spots. -/
abbrev Lists : Rd (List (List Sp)) := SliceOf 1 Spots
theorem keeps_lists : Keeps Lists := keeps_slice keeps_spots
theorem lists_at {n : Nat} {w : World} {xss : List (List Sp)} {v : Value} (h : Lists n w xss [v]) :
    ∃ A cap, v = .slice A xss.length cap ∧ xss.length ≤ cap ∧ cap ≤ maxLen ∧ ∀ i, (hi : i < xss.length) → ∃ b off u, A = some ⟨b, off, none⟩ ∧ b < n ∧ w.cell? ⟨b, off + i, none⟩ = some u ∧ Spots n w xss[i] [u] := by
  obtain ⟨A, cap, e, h1, h2, _, h3⟩ := h
  simp only [List.cons.injEq, and_true] at e
  refine ⟨A, cap, e, h1, h2, fun i hi => ?_⟩
  obtain ⟨b, off, rfl, hb, hc⟩ := h3 (by omega)
  obtain ⟨es, hl, hcell, hr⟩ := hc i hi
  match es, hl with
  | [u], _ => exact ⟨b, off, u, rfl, hb, by have := hcell 0 (by omega); simpa using this, hr⟩
/-- Literals of two slices, and of three. -/
theorem lists_two {n : Nat} {w : World} {a b : List Sp} {u v : Value} (t : TypeId) (ha : Spots n w a [u]) (hb : Spots n w b [v]) (hn : n ≤ w.heap.size) : Lists (w.heap.size + 1) (w.alloc (.cells #[u, v] t)) [a, b] [.slice (some ⟨w.heap.size, 0, none⟩) 2 2] := by
  have B := below_new w (.cells #[u, v] t)
  have ka := keeps_spots n (w.heap.size + 1) w _ a _ ha (B.mono hn) (by omega)
  have kb := keeps_spots n (w.heap.size + 1) w _ b _ hb (B.mono hn) (by omega)
  refine ⟨_, 2, rfl, Nat.le_refl _, by decide, (fun h => by cases h), fun _ => ⟨_, 0, rfl, by omega, fun i hi => ?_⟩⟩
  match i, hi with
  | 0, _ => exact ⟨[u], rfl, fun j hj => by have : j = 0 := by omega
                                            subst this; simp, ka⟩
  | 1, _ => exact ⟨[v], rfl, fun j hj => by have : j = 0 := by omega
                                            subst this; simp, kb⟩
theorem lists_three {n : Nat} {w : World} {a b c : List Sp} {u v x : Value} (t : TypeId) (ha : Spots n w a [u]) (hb : Spots n w b [v]) (hc : Spots n w c [x]) (hn : n ≤ w.heap.size) : Lists (w.heap.size + 1) (w.alloc (.cells #[u, v, x] t)) [a, b, c] [.slice (some ⟨w.heap.size, 0, none⟩) 3 3] := by
  have B := below_new w (.cells #[u, v, x] t)
  have ka := keeps_spots n (w.heap.size + 1) w _ a _ ha (B.mono hn) (by omega)
  have kb := keeps_spots n (w.heap.size + 1) w _ b _ hb (B.mono hn) (by omega)
  have kc := keeps_spots n (w.heap.size + 1) w _ c _ hc (B.mono hn) (by omega)
  refine ⟨_, 3, rfl, Nat.le_refl _, by decide, (fun h => by cases h), fun _ => ⟨_, 0, rfl, by omega, fun i hi => ?_⟩⟩
  match i, hi with
  | 0, _ => exact ⟨[u], rfl, fun j hj => by have : j = 0 := by omega
                                            subst this; simp, ka⟩
  | 1, _ => exact ⟨[v], rfl, fun j hj => by have : j = 0 := by omega
                                            subst this; simp, kb⟩
  | 2, _ => exact ⟨[x], rfl, fun j hj => by have : j = 0 := by omega
                                            subst this; simp, kc⟩
/-- How long they are together. -/
def tot (xss : List (List Sp)) : Nat := (xss.map List.length).sum
theorem tot_succ (xss : List (List Sp)) (k : Nat) (h : k < xss.length) : tot (xss.take (k + 1)) = tot (xss.take k) + xss[k].length := by
  unfold tot
  rw [List.take_succ_eq_append_getElem h, List.map_append, List.sum_append]
  simp only [List.map_cons, List.map_nil, List.sum_cons, List.sum_nil]
  omega
theorem tot_take (xss : List (List Sp)) (k : Nat) : tot (xss.take k) ≤ tot xss := by
  unfold tot
  conv => rhs; rw [← List.take_append_drop k xss, List.map_append, List.sum_append]
  omega
theorem flat_take_succ (xss : List (List Sp)) (k : Nat) (h : k < xss.length) : (xss.take (k + 1)).flatten = (xss.take k).flatten ++ xss[k] := by
  rw [List.take_succ_eq_append_getElem h, List.flatten_append]
  simp only [List.flatten_cons, List.flatten_nil, List.append_nil]
theorem tot_flat (xss : List (List Sp)) : xss.flatten.length = tot xss := by
  unfold tot
  rw [List.length_flatten]


end Go.Proofs.Ytlmkgkfildgkgaa
