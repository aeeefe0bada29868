import Derived.Test.YtkmlnglmecjmeaaMemA
import Derived.Test.YtkmlnglmecjmeaaTreeA
/- Boxes of two cells that are set, and what lies beside them. Of no program. No condition but those named. -/
namespace Go.Proofs.Ytkmlnglmecjmeaa
open Go Go.RowKit
set_option linter.unusedVariables false

theorem Box.two {w : World} {g : Nat} {a b : Value} (h : Box w g [a, b]) (c d : Value) : Box ((w.setCell ⟨g, 0, none⟩ c).setCell ⟨g, 1, none⟩ d) g [c, d] := by
  have h0 := h.c 0 _ rfl
  have h1 := h.c 1 _ rfl
  refine ⟨fun i v hv => ?_, fun i hi => ?_⟩
  · match i, hv with
    | 0, hv =>
      simp at hv
      subst hv
      rw [World.cell?_setCell_other _ _ _ _ (by simp)]
      exact World.cell?_setCell_same _ _ _ h0
    | 1, hv =>
      simp at hv
      subst hv
      exact World.cell?_setCell_same _ _ _ ((World.cell?_setCell_other _ _ _ _ (by simp)).trans h1)
    | k + 2, hv => simp at hv
  · rw [World.frozen?_setCell, World.frozen?_setCell]
    exact h.f i hi
theorem Box.aside {w : World} {g G : Nat} {cs : List Value} (h : Box w g cs) (hne : g ≠ G) (a b : Value) : Box ((w.setCell ⟨G, 0, none⟩ a).setCell ⟨G, 1, none⟩ b) g cs :=
  h.keep (by rw [Below.heap_setCell _ _ _ _ hne, Below.heap_setCell _ _ _ _ hne])
theorem owns_aside {w : World} {base : Nat} {e : TypeId} {s : Nat} {v : Value} {n : Nat} {ys : List Value} (h : w.ownsRow base e s v n ys) (G : Nat) (hne : ∀ g, v.ownBlock = some g → g ≠ G) (a b : Value) : ((w.setCell ⟨G, 0, none⟩ a).setCell ⟨G, 1, none⟩ b).ownsRow base e s v n ys :=
  owns_block h fun g hg => by rw [Below.heap_setCell _ _ _ _ (hne g hg), Below.heap_setCell _ _ _ _ (hne g hg)]
theorem size_set2 (w : World) (p q : Addr) (a b : Value) : ((w.setCell p a).setCell q b).heap.size = w.heap.size := by simp [World.setCell]

end Go.Proofs.Ytkmlnglmecjmeaa
