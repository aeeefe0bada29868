import Derived.Test.YtlmkgkfildgkgaaLay
import Derived.Test.YtlmkgkfildgkgaaLayM
/- The document's examples of layer 7 hold (lodgelaw07.awake answers true), and memory below is left as it was. No condition. -/
namespace Go.Proofs.Ytlmkgkfildgkgaa
open Go.RowKit
set_option linter.unusedVariables false

theorem leftAt_new (w : World) (s : ByteArray) (l : List UInt8) (t : TypeId) (h : s = tx l) : LeftAt (w.alloc (.cells #[.string s, .bool false] t)) w.heap.size l false := by
  subst h
  exact ⟨by simp, by simp, by simp, by simp⟩
/-- A new Left, and nothing else. -/
theorem below_new (w : World) (o : Obj) : Below w.heap.size w (w.alloc o) := (Below.refl _ w).alloc (Nat.le_refl _) _
theorem only_below {g : Nat} {w a b : World} (h : Below w.heap.size w a) (hg : w.heap.size ≤ g) (o : Only g a b) : Below w.heap.size w b := h.trans (o.below hg)

theorem LeftAt.lt {w : World} {b : Nat} {l : List UInt8} {x : Bool} (h : LeftAt w b l x) : b < w.heap.size := World.block_lt_of_cell? w ⟨b, 0, none⟩ h.s
theorem LeftAt.next {w w' : World} {b : Nat} {l : List UInt8} {x : Bool} (h : LeftAt w b l x) (hb : Below w.heap.size w w') : LeftAt w' b l x := h.below hb h.lt
theorem BadAt.next {w w' : World} {b n : Nat} (h : BadAt w b n) (hb : Below w.heap.size w w') : BadAt w' b n := by
  obtain ⟨r, hr, h⟩ := h
  exact ⟨r, hr, h.next hb⟩
theorem BadAt.only {w w' : World} {b n g : Nat} (h : BadAt w b n) (hb : Only g w w') (hg : b ≠ g) : BadAt w' b n := by
  obtain ⟨r, hr, h⟩ := h
  exact ⟨r, hr, h.only hb hg⟩
theorem BadAt.cell {w : World} {b n : Nat} (h : BadAt w b n) : w.cell? ⟨b, 1, none⟩ = some (.bool true) := by
  obtain ⟨r, _, h⟩ := h
  exact h.g
theorem BadAt.lt {w : World} {b n : Nat} (h : BadAt w b n) : b < w.heap.size := by
  obtain ⟨r, _, h⟩ := h
  exact h.lt


end Go.Proofs.Ytlmkgkfildgkgaa
