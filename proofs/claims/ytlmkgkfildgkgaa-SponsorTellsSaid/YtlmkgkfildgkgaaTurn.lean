import Derived.Test.YtlmkgkfildgkgaaOnlyT
/- A world in which, below n, nothing but one block has turned; boxes of one's own. Of no program. No condition but those named. -/
namespace Go.Proofs.Ytlmkgkfildgkgaa
open Go Go.RowKit

/-- Below n all but block g is as it was. -/
structure Turn (g n : Nat) (w w' : World) : Prop where
  os : w'.os = w.os
  tape : w'.tape = w.tape
  output : w'.output = w.output
  size : w.heap.size ≤ w'.heap.size
  block : ∀ k, k < n → k ≠ g → w'.heap[k]? = w.heap[k]?
theorem Turn.refl (g n : Nat) (w : World) : Turn g n w w := ⟨rfl, rfl, rfl, Nat.le_refl _, fun _ _ _ => rfl⟩
theorem Turn.trans {g n : Nat} {a b c : World} (h : Turn g n a b) (k : Turn g n b c) : Turn g n a c := ⟨k.os.trans h.os, k.tape.trans h.tape, k.output.trans h.output, Nat.le_trans h.size k.size, fun j hj hg => (k.block j hj hg).trans (h.block j hj hg)⟩
theorem Turn.mono {g n m : Nat} {a b : World} (h : Turn g n a b) (hm : m ≤ n) : Turn g m a b := ⟨h.os, h.tape, h.output, h.size, fun j hj hg => h.block j (by omega) hg⟩
theorem Only.turn {g : Nat} {a b : World} (h : Only g a b) (n : Nat) : Turn g n a b := ⟨h.os, h.tape, h.output, Nat.le_of_eq h.size.symm, fun j _ hg => h.block j hg⟩
theorem turn_of {n : Nat} {a b : World} (h : Below n a b) (g : Nat) : Turn g n a b := ⟨h.os, h.tape, h.output, h.size, fun j hj _ => h.block j hj⟩
theorem Turn.below {g n B : Nat} {a b : World} (h : Turn g n a b) (hg : B ≤ g) (hn : B ≤ n) : Below B a b := ⟨h.os, h.tape, h.output, h.size, fun j hj => h.block j (by omega) (by omega)⟩
theorem Turn.drew {g n : Nat} {a w : World} (h : Turn g n a w) : Turn g n a w.drew := ⟨h.os, h.tape, h.output, h.size, h.block⟩
theorem Turn.set {g n : Nat} {a w : World} (h : Turn g n a w) {k : Nat} (hk : n ≤ k ∨ k = g) (i : Nat) (u : Value) : Turn g n a (w.setCell ⟨k, i, none⟩ u) :=
  h.trans ⟨rfl, rfl, rfl, by simp [World.setCell], fun j hj hg => Below.heap_setCell _ _ _ _ (show j ≠ k by omega)⟩
theorem Turn.alloc {g n : Nat} {a w : World} (h : Turn g n a w) (hn : n ≤ w.heap.size) (o : Obj) : Turn g n a (w.alloc o) :=
  h.trans ⟨rfl, rfl, rfl, by simp, fun j hj _ => Below.heap_alloc _ _ _ (by omega)⟩

/-- Block g holds these cells, and may be written to. -/
structure Box (w : World) (g : Nat) (cs : List Value) : Prop where
  c : ∀ i v, cs[i]? = some v → w.cell? ⟨g, i, none⟩ = some v
  f : ∀ i, i < cs.length → w.frozen? ⟨g, i, none⟩ = false
theorem Box.new (w : World) (cs : List Value) (t : TypeId) : Box (w.alloc (.cells cs.toArray t)) w.heap.size cs :=
  ⟨fun i v h => by simp [h], fun i h => by simp⟩
theorem Box.keep {w w' : World} {g : Nat} {cs : List Value} (h : Box w g cs) (e : w'.heap[g]? = w.heap[g]?) : Box w' g cs :=
  ⟨fun i v hv => (World.cell?_of_block (w := w) (a := ⟨g, i, none⟩) e).trans (h.c i v hv), fun i hi => (World.frozen?_of_block (w := w) (a := ⟨g, i, none⟩) e).trans (h.f i hi)⟩
theorem Box.below {w w' : World} {g n : Nat} {cs : List Value} (h : Box w g cs) (hb : Below n w w') (hg : g < n) : Box w' g cs := h.keep (hb.block g hg)
theorem Box.turn {w w' : World} {g k n : Nat} {cs : List Value} (h : Box w g cs) (hb : Turn k n w w') (hg : g < n) (hk : g ≠ k) : Box w' g cs := h.keep (hb.block g hg hk)
theorem Box.only {w w' : World} {g k : Nat} {cs : List Value} (h : Box w g cs) (hb : Only k w w') (hk : g ≠ k) : Box w' g cs := h.keep (hb.block g hk)
theorem Box.lt {w : World} {g : Nat} {v : Value} {cs : List Value} (h : Box w g (v :: cs)) : g < w.heap.size := World.block_lt_of_cell? w ⟨g, 0, none⟩ (h.c 0 v rfl)
theorem Box.next {w w' : World} {g : Nat} {v : Value} {cs : List Value} (h : Box w g (v :: cs)) (hb : Below w.heap.size w w') : Box w' g (v :: cs) := h.below hb h.lt

end Go.Proofs.Ytlmkgkfildgkgaa
