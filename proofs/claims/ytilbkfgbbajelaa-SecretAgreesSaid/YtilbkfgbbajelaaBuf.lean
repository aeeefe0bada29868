/- A row of limbs that a call writes to: what it holds, by the place; what a store leaves; a list that lies elsewhere. No condition but those named. -/
import Derived.Test.YtilbkfgbbajelaaLenA
import Derived.Test.YtilbkfgbbajelaaNumA
import Derived.Deep.OwnRows
namespace Go.Proofs.Ytilbkfgbbajelaa
open Go.RowKit Go.Shelf Num
set_option linter.unusedVariables false

/-- Block g is a row of n limbs, the j-th being f j. -/
def Row (w : World) (g n : Nat) (f : Nat → Nat) : Prop := (∀ j, f j < M) ∧ w.rowIs g 32 n (fun j => .int .u64 ((f j : Nat) : Int))
theorem Row.cell {w : World} {g n : Nat} {f : Nat → Nat} (h : Row w g n f) {j : Nat} (hj : j < n) : w.cell? ⟨g, j, none⟩ = some (.int .u64 ((f j : Nat) : Int)) := h.2.cell hj
theorem Row.frozen {w : World} {g n : Nat} {f : Nat → Nat} (h : Row w g n f) (j : Nat) : w.frozen? ⟨g, j, none⟩ = false := h.2.frozen j
theorem Row.lim {w : World} {g n : Nat} {f : Nat → Nat} (h : Row w g n f) (j : Nat) : f j < M := h.1 j
theorem Row.lt {w : World} {g n : Nat} {f : Nat → Nat} (h : Row w g n f) : g < w.heap.size := h.2.lt
theorem Row.set {w : World} {g n : Nat} {f : Nat → Nat} (h : Row w g n f) (i : Nat) {x : Nat} (hx : x < M) : Row (w.setCell ⟨g, i, none⟩ (.int .u64 (x : Int))) g n (upd f i x) := by
  refine ⟨upd_lt h.1 i hx, (h.2.set i _).congr fun j _ => ?_⟩
  unfold upd
  split <;> rfl
theorem Row.drewN {w : World} {g n : Nat} {f : Nat → Nat} (h : Row w g n f) (k : Nat) : Row (w.drewN k) g n f := h
theorem Row.alloc {w : World} {g n : Nat} {f : Nat → Nat} (h : Row w g n f) (o : Obj) : Row (w.alloc o) g n f := ⟨h.1, h.2.alloc o⟩
theorem Row.of_block {w w' : World} {g n : Nat} {f : Nat → Nat} (h : Row w g n f) (e : w'.heap[g]? = w.heap[g]?) : Row w' g n f := ⟨h.1, h.2.of_block e⟩
theorem Row.below {w w' : World} {g n B : Nat} {f : Nat → Nat} (h : Row w g n f) (hb : Below B w w') (hg : g < B) : Row w' g n f := h.of_block (hb.block g hg)
theorem Row.congr {w : World} {g n : Nat} {f f' : Nat → Nat} (h : Row w g n f) (hf : ∀ j, f' j < M) (e : ∀ j, j < n → f j = f' j) : Row w g n f' := ⟨hf, h.2.congr fun j hj => by rw [e j hj]⟩
theorem row_made (w : World) (n : Nat) : Row (w.alloc (.cells (madeCells #[.int .u64 0] n) 32)) w.heap.size n (fun _ => 0) := ⟨fun _ => M_pos, World.rowIs_made w _ n _⟩

/-- A part of such a row, as a list. -/
theorem Row.part {w : World} {g n : Nat} {f : Nat → Nat} (h : Row w g n f) (n₀ o k cap : Nat) (hg : g < n₀) (hk : o + k ≤ n) (hc : k ≤ cap) : Lim n₀ w (.slice (some ⟨g, o, none⟩) k cap) (upto (fun j => f (o + j)) k) := by
  refine ⟨some ⟨g, o, none⟩, cap, by rw [upto_length], by rw [upto_length]; exact hc, (fun h => by cases h), ok_upto (fun j => h.1 _) k, fun hp => ⟨g, o, rfl, hg, fun j hj => ?_⟩⟩
  rw [upto_length] at hj
  rw [lat_upto _ hj]
  exact h.cell (by omega)
theorem Row.whole {w : World} {g n : Nat} {f : Nat → Nat} (h : Row w g n f) (cap : Nat) (hc : n ≤ cap) : Lim w.heap.size w (.slice (some ⟨g, 0, none⟩) n cap) (upto f n) := by
  have := h.part w.heap.size 0 n cap h.lt (by omega) hc
  simpa using this

/-- All but block g is as it was. -/
structure Only (g : Nat) (w w' : World) : Prop where
  os : w'.os = w.os
  tape : w'.tape = w.tape
  output : w'.output = w.output
  size : w'.heap.size = w.heap.size
  block : ∀ k, k ≠ g → w'.heap[k]? = w.heap[k]?
theorem Only.refl (g : Nat) (w : World) : Only g w w := ⟨rfl, rfl, rfl, rfl, fun _ _ => rfl⟩
theorem Only.trans {g : Nat} {a b c : World} (h : Only g a b) (k : Only g b c) : Only g a c := ⟨k.os.trans h.os, k.tape.trans h.tape, k.output.trans h.output, k.size.trans h.size, fun j hj => (k.block j hj).trans (h.block j hj)⟩
theorem Only.set {g : Nat} {a w : World} (h : Only g a w) (i : Nat) (u : Value) : Only g a (w.setCell ⟨g, i, none⟩ u) :=
  h.trans ⟨rfl, rfl, rfl, by simp [World.setCell], fun k hk => Below.heap_setCell _ _ _ _ hk⟩
theorem Only.drewN {g : Nat} {a w : World} (h : Only g a w) (k : Nat) : Only g a (w.drewN k) := ⟨h.os, h.tape, h.output, h.size, h.block⟩
theorem Only.below {g : Nat} {w w' : World} (h : Only g w w') {B : Nat} (hB : B ≤ g) : Below B w w' := ⟨h.os, h.tape, h.output, Nat.le_of_eq h.size.symm, fun k hk => h.block k (by omega)⟩

/-- A list that lies outside of block g. -/
def Off (g : Nat) (w : World) (v : Value) (xs : List Nat) : Prop :=
  ∃ A cap, v = .slice A xs.length cap ∧ xs.length ≤ cap ∧ Ok xs ∧
    (0 < xs.length → ∃ b off, A = some ⟨b, off, none⟩ ∧ b ≠ g ∧ ∀ j, j < xs.length → w.cell? ⟨b, off + j, none⟩ = some (.int .u64 ((lat xs j : Nat) : Int)))
theorem Lim.off {n₀ : Nat} {w : World} {v : Value} {xs : List Nat} (h : Lim n₀ w v xs) {g : Nat} (hg : n₀ ≤ g) : Off g w v xs := by
  obtain ⟨A, cap, hv, hc, _, ho, hr⟩ := h
  refine ⟨A, cap, hv, hc, ho, fun hp => ?_⟩
  obtain ⟨b, off, hA, hb, hcell⟩ := hr hp
  exact ⟨b, off, hA, by omega, hcell⟩
theorem Off.ok {g : Nat} {w : World} {v : Value} {xs : List Nat} (h : Off g w v xs) : Ok xs := by
  obtain ⟨A, cap, _, _, h, _⟩ := h; exact h
theorem Off.only {g : Nat} {w w' : World} {v : Value} {xs : List Nat} (h : Off g w v xs) (hk : Only g w w') : Off g w' v xs := by
  obtain ⟨A, cap, hv, hc, ho, hr⟩ := h
  refine ⟨A, cap, hv, hc, ho, fun hp => ?_⟩
  obtain ⟨b, off, hA, hb, hcell⟩ := hr hp
  exact ⟨b, off, hA, hb, fun j hj => (World.cell?_of_block (w := w) (hk.block b hb)).trans (hcell j hj)⟩
theorem Row.off {w : World} {g n : Nat} {f : Nat → Nat} (h : Row w g n f) {g' : Nat} (hg : g ≠ g') (o k cap : Nat) (hk : o + k ≤ n) (hc : k ≤ cap) : Off g' w (.slice (some ⟨g, o, none⟩) k cap) (upto (fun j => f (o + j)) k) := by
  refine ⟨some ⟨g, o, none⟩, cap, by rw [upto_length], by rw [upto_length]; exact hc, ok_upto (fun j => h.1 _) k, fun hp => ⟨g, o, rfl, hg, fun j hj => ?_⟩⟩
  rw [upto_length] at hj
  rw [lat_upto _ hj]
  exact h.cell (by omega)

end Go.Proofs.Ytilbkfgbbajelaa
