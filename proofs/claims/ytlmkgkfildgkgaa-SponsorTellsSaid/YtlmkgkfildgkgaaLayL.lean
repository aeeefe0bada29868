import Derived.Test.YtlmkgkfildgkgaaTBase
/- What is left to be read: lay.Left's take. Condition: the pointer points to a Left that may be written to. -/
namespace Go.Proofs.Ytlmkgkfildgkgaa
open Go.RowKit
set_option linter.unusedVariables false

/-- Block b is a Left: these bytes are left, and whether it is Bad; it may be written to. -/
structure LeftAt (w : World) (b : Nat) (l : List UInt8) (bad : Bool) : Prop where
  s : w.cell? ⟨b, 0, none⟩ = some (.string (tx l))
  g : w.cell? ⟨b, 1, none⟩ = some (.bool bad)
  f0 : w.frozen? ⟨b, 0, none⟩ = false
  f1 : w.frozen? ⟨b, 1, none⟩ = false
theorem LeftAt.bad {w : World} {b : Nat} {l : List UInt8} {x : Bool} (h : LeftAt w b l x) (y : Bool) : LeftAt (w.setCell ⟨b, 1, none⟩ (.bool y)) b l y :=
  ⟨(World.cell?_setCell_other _ _ _ _ (by simp)).trans h.s, World.cell?_setCell_same _ _ _ h.g, by rw [World.frozen?_setCell]; exact h.f0, by rw [World.frozen?_setCell]; exact h.f1⟩
theorem LeftAt.rest {w : World} {b : Nat} {l : List UInt8} {x : Bool} (h : LeftAt w b l x) (r : List UInt8) : LeftAt (w.setCell ⟨b, 0, none⟩ (.string (tx r))) b r x :=
  ⟨World.cell?_setCell_same _ _ _ h.s, (World.cell?_setCell_other _ _ _ _ (by simp)).trans h.g, by rw [World.frozen?_setCell]; exact h.f0, by rw [World.frozen?_setCell]; exact h.f1⟩
theorem LeftAt.keep {w w' : World} {b : Nat} {l : List UInt8} {x : Bool} (h : LeftAt w b l x) (e : w'.heap[b]? = w.heap[b]?) : LeftAt w' b l x :=
  ⟨(World.cell?_of_block (w := w) e).trans h.s, (World.cell?_of_block (w := w) e).trans h.g, (World.frozen?_of_block (w := w) e).trans h.f0, (World.frozen?_of_block (w := w) e).trans h.f1⟩
theorem LeftAt.below {w w' : World} {b B : Nat} {l : List UInt8} {x : Bool} (h : LeftAt w b l x) (hb : Below B w w') (hB : b < B) : LeftAt w' b l x := h.keep (hb.block b hB)
theorem LeftAt.only {w w' : World} {b g : Nat} {l : List UInt8} {x : Bool} (h : LeftAt w b l x) (hg : Only g w w') (hB : b ≠ g) : LeftAt w' b l x := h.keep (hg.block b hB)
theorem tx_nil : tx [] = ⟨#[]⟩ := tx_is []
theorem rpair {a b : ByteArray} {x : Bool} (h : a = b) : Ending.returned (.tuple #[.string a, .bool x]) = .returned (.tuple #[.string b, .bool x]) := by rw [h]


end Go.Proofs.Ytlmkgkfildgkgaa
