/- append of a list of limbs that came in, nil or not, onto a row of the call's own: what it leaves; the operation may be guarded. Conditions: the guard is met; lengths below 2^41. -/
import Derived.Test.YtilbkfgbbajelaaNat
namespace Go.Proofs.Ytilbkfgbbajelaa
open Go.RowKit Go.Shelf Num
set_option linter.unusedVariables false

theorem append_lim {ops : Array Oper} {rest : List Oper} {o : Oper} {a : Act} {Q : Exit → Act → World → Prop} (w : World) (hw : Region.wanted o (yielded ops a.tmps) = true) (s x : Operand)
    (ho : o.op = .call { callee := .builtin .append, args := #[s, x], argTypes := #[28, 28] })
    (base : Nat) (v : Value) (n : Nat) (ys : List Value) (hs : a.eval s = v) (hown : w.ownsRow base 32 1 v n ys)
    (n₀ : Nat) (A : Option Addr) (m c : Nat) (xs : List Nat) (hx : a.eval x = .slice A m c) (hL : Lim n₀ w (.slice A m c) xs) (hb : n + m ≤ 2199023255552) (hbase : base ≤ w.heap.size)
    (h : ∀ v' w', w'.ownsRow base 32 1 v' (n + xs.length) (ys ++ Us xs) → w.grownBy w' v.ownBlock → wpList Try.prog ops Q rest (a.put o.dst v') w') : wpList Try.prog ops Q (o :: rest) a w := by
  obtain ⟨i0, hi, hz0, hz1, hz2⟩ := info_parts infoU
  have hm := hL.len
  refine BigFrame.wpList_want hw fun K hK => ?_
  cases A with
  | none =>
    obtain ⟨A', c', hv, hc', hz, _⟩ := hL
    injection hv with h1 h2 h3
    have hc0 := hz h1.symm
    have hx0 : xs = [] := List.eq_nil_of_length_eq_zero (by omega)
    subst hx0
    have hm0 : m = 0 := hm
    have hcc : c = 0 := by omega
    subst hm0 hcc
    have hrun := run_append_owned_none (P := Try.prog) (w := w) base 28 o.type 32 i0 1 Try.underlying28 hi v n ys hown
    unfold Oper.wp
    simp [execOp, ho, resolve, invoke, builtin, hs, hx, hrun, Result.andThen]
    exact hK _ _ (h v w (by simpa [Us] using hown) (World.grownBy.refl w _))
  | some ad =>
    subst hm
    refine wp_append_own w s x 28 ho base 32 i0 (.int .u64 0) 1 8 Try.underlying28 hi hz0 hz1 hz2 rfl (by decide) v n ys hs hown ad xs.length c (Us xs) hx (by rw [Us_length]; omega) ?_ (Us_cell _) (by unfold maxLen; omega) (by omega) hbase ?_
    · have := lim_cells hL xs.length (Nat.le_refl _)
      rwa [List.take_length] at this
    · intro v' w' h1 h2 _
      exact hK _ _ (h v' w' h1 h2)

end Go.Proofs.Ytilbkfgbbajelaa
