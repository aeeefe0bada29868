/- Lists of limbs carried on from world to world, and those that a program writes out. No condition but those named. -/
import Derived.Test.YtmbdidompjgaaaaLen
namespace Go.Proofs.Ytmbdidompjgaaaa
open Go.RowKit Go.Shelf Num
set_option linter.unusedVariables false

theorem Lim.next {w W' : World} {v : Value} {xs : List Nat} (h : Lim w.heap.size w v xs) (hb : Below w.heap.size w W') : Lim W'.heap.size W' v xs := (h.below hb).mono hb.size
theorem Lim.alloc {w : World} {v : Value} {xs : List Nat} (h : Lim w.heap.size w v xs) (o : Obj) : Lim (w.alloc o).heap.size (w.alloc o) v xs := h.next ((Below.refl _ _).alloc (Nat.le_refl _) o)

theorem lim_lit1 (w : World) (x : Nat) (hx : x < M) : Lim (w.alloc (.cells #[.int .u64 (x : Int)] 28)).heap.size (w.alloc (.cells #[.int .u64 (x : Int)] 28)) (.slice (some ⟨w.heap.size, 0, none⟩) 1 1) [x] := by
  refine ⟨_, _, rfl, Nat.le_refl _, (fun h => by cases h), ok_one hx, fun hp => ⟨w.heap.size, 0, rfl, by simp, fun j hj => ?_⟩⟩
  have hj0 : j = 0 := by simp at hj; omega
  subst hj0
  simp [lat]

theorem lim_lit2 (w : World) (x y : Nat) (hx : x < M) (hy : y < M) : Lim (w.alloc (.cells #[.int .u64 (x : Int), .int .u64 (y : Int)] 28)).heap.size (w.alloc (.cells #[.int .u64 (x : Int), .int .u64 (y : Int)] 28)) (.slice (some ⟨w.heap.size, 0, none⟩) 2 2) [x, y] := by
  refine ⟨_, _, rfl, Nat.le_refl _, (fun h => by cases h), ok_append (xs := [x]) (ys := [y]) (ok_one hx) (ok_one hy), fun hp => ⟨w.heap.size, 0, rfl, by simp, fun j hj => ?_⟩⟩
  have hj0 : j = 0 ∨ j = 1 := by simp at hj; omega
  rcases hj0 with rfl | rfl <;> simp [lat]

theorem lim_lit1' (w : World) (o : Obj) (x : Nat) (hx : x < M) : Lim ((w.alloc o).alloc (.cells #[.int .u64 (x : Int)] 28)).heap.size ((w.alloc o).alloc (.cells #[.int .u64 (x : Int)] 28)) (.slice (some ⟨w.heap.size + 1, 0, none⟩) 1 1) [x] := by
  have h := lim_lit1 (w.alloc o) x hx
  simpa only [World.size_alloc] using h
theorem lim_lit2' (w : World) (o : Obj) (x y : Nat) (hx : x < M) (hy : y < M) : Lim ((w.alloc o).alloc (.cells #[.int .u64 (x : Int), .int .u64 (y : Int)] 28)).heap.size ((w.alloc o).alloc (.cells #[.int .u64 (x : Int), .int .u64 (y : Int)] 28)) (.slice (some ⟨w.heap.size + 1, 0, none⟩) 2 2) [x, y] := by
  have h := lim_lit2 (w.alloc o) x y hx hy
  simpa only [World.size_alloc] using h

def top : Nat := 18446744073709551615
theorem top_ok : top < M := by decide +kernel
theorem small_ok {n : Nat} (h : n ≤ 9) : n < M := by unfold M; omega

theorem limbs_of (n : Nat) (xs : List Nat) (h : n = val xs) (ho : xs.all (fun x => decide (x < M)) = true) (ht : trim xs = xs) : limbs n = xs := by
  have ok : Ok xs := fun x hx => by simpa using List.all_eq_true.1 ho x hx
  rw [h, limbs_val ok, ht]

end Go.Proofs.Ytmbdidompjgaaaa
