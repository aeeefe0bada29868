/- The document's examples of layer 7 hold (lodgelaw07.awake answers true), and memory below is left as it was. No condition. -/
import Derived.Test.YtghdejepdckahaaLay
import Derived.Test.YtghdejepdckahaaLayM
namespace Go.Proofs.Ytghdejepdckahaa
open Go.RowKit
set_option linter.unusedVariables false

theorem leftAt_new (w : World) (s : ByteArray) (l : List UInt8) (t : TypeId) (h : s = tx l) : LeftAt (w.alloc (.cells #[.string s, .bool false] t)) w.heap.size l false := by
  subst h
  exact ⟨by simp, by simp, by simp, by simp⟩
/-- A new Left, and nothing else. -/
theorem below_new (w : World) (o : Obj) : Below w.heap.size w (w.alloc o) := (Below.refl _ w).alloc (Nat.le_refl _) _
theorem only_below {g : Nat} {w a b : World} (h : Below w.heap.size w a) (hg : w.heap.size ≤ g) (o : Only g a b) : Below w.heap.size w b := h.trans (o.below hg)

theorem LeftAt.lt {w : World} {b : Nat} {l : List UInt8} {x : Bool} (h : LeftAt w b l x) : b < w.heap.size := World.block_lt_of_cell? w ⟨b, 0, none⟩ h.s
theorem LeftAt.next {w w' : World} {b : Nat} {l : List UInt8} {x : Bool} (h : LeftAt w b l x) (hb : Below w.heap.size w w') : LeftAt w' b l x := h.below hb h.lt
theorem BadAt.next {w w' : World} {b n : Nat} (h : BadAt w b n) (hb : Below w.heap.size w w') : BadAt w' b n := by
  obtain ⟨r, hr, h⟩ := h
  exact ⟨r, hr, h.next hb⟩
theorem BadAt.only {w w' : World} {b n g : Nat} (h : BadAt w b n) (hb : Only g w w') (hg : b ≠ g) : BadAt w' b n := by
  obtain ⟨r, hr, h⟩ := h
  exact ⟨r, hr, h.only hb hg⟩
theorem BadAt.cell {w : World} {b n : Nat} (h : BadAt w b n) : w.cell? ⟨b, 1, none⟩ = some (.bool true) := by
  obtain ⟨r, _, h⟩ := h
  exact h.g
theorem BadAt.lt {w : World} {b n : Nat} (h : BadAt w b n) : b < w.heap.size := by
  obtain ⟨r, _, h⟩ := h
  exact h.lt

set_option maxRecDepth 100000 in
set_option maxHeartbeats 8000000 in
theorem awake7_any (w : World) : Calls Try.prog 7 #[] w fun e W' => e = .returned (.bool true) ∧ Below w.heap.size w W' := by
  go_enter Try.func7, Try.ntmps7
  go_wp2_with fail
  have h0 := leftAt_new w ⟨#[0, 0, 1, 2, 0, 0, 0, 2, 97, 98]⟩ [0, 0, 1, 2, 0, 0, 0, 2, 97, 98] 29 (tx_is _).symm
  have B := below_new w (.cells #[.string ⟨#[0, 0, 1, 2, 0, 0, 0, 2, 97, 98]⟩, .bool false] 29)
  generalize w.alloc (.cells #[.string ⟨#[0, 0, 1, 2, 0, 0, 0, 2, 97, 98]⟩, .bool false] 29) = W0 at *
  refine Calls.mono (R := fun e W' => e = .returned (.int .i64 258) ∧ LeftAt W' w.heap.size [0, 0, 0, 2, 97, 98] false ∧ Only w.heap.size W0 W') (leftNum_is _ _ _ 300 _ h0 (by decide) (by decide)) ?_
  rintro e W1 ⟨rfl, h1, o1⟩
  have B1 := only_below B (Nat.le_refl _) o1
  clear h0 o1 B
  go_wp2_with fail
  refine Calls.mono (R := fun e W' => e = .returned (.string ⟨#[97, 98]⟩) ∧ LeftAt W' w.heap.size [] false ∧ Only w.heap.size W1 W') ?_ ?_
  · have := leftText_is _ _ _ 2 _ h1 (by decide) (by decide)
    rw [tx_is] at this
    exact this
  rintro e W2 ⟨rfl, h2, o2⟩
  have B2 := only_below B1 (Nat.le_refl _) o2
  clear h1 o2 B1
  go_wp2_with fail
  refine Calls.mono (R := fun e W' => e = .returned (.bool true) ∧ W2 = W') (leftDone_any _ _ _ _ h2) ?_
  rintro e w' ⟨rfl, rfl⟩
  go_wp2_with fail
  refine (leftNum_not _ _ _ 9 _ h2 (by decide) (by decide)).mono ?_
  rintro e W3 ⟨rfl, h3, o3⟩
  have B3 := only_below B2 (Nat.le_refl _) o3
  clear h2 o3 B2
  go_wp2_with fail
  refine Calls.mono (R := fun e W' => e = .returned (.string ⟨#[0, 0, 0, 3, 97, 98, 99]⟩) ∧ Below W3.heap.size W3 W') ?_ ?_
  · have := layText_any [97, 98, 99] W3 (by decide)
    rw [tx_is, tx_is] at this
    exact this
  rintro e W4 ⟨rfl, hb⟩
  have h4 := h3.next hb
  have B4 := B3.trans (hb.mono B3.size)
  have hlt : w.heap.size < W4.heap.size := h4.lt
  clear h3 hb B3
  go_wp2_with fail
  have k0 := leftAt_new W4 ⟨#[0, 0, 0, 3, 97, 98, 99]⟩ [0, 0, 0, 3, 97, 98, 99] 29 (tx_is _).symm
  have hb := below_new W4 (.cells #[.string ⟨#[0, 0, 0, 3, 97, 98, 99]⟩, .bool false] 29)
  generalize W4.alloc (.cells #[.string ⟨#[0, 0, 0, 3, 97, 98, 99]⟩, .bool false] 29) = W5 at *
  have h5 := h4.next hb
  have B5 := B4.trans (hb.mono B4.size)
  clear h4 B4 hb
  refine (leftText_not _ _ _ 2 _ k0 (by decide) (by decide)).mono ?_
  rintro e W6 ⟨rfl, k6, o6⟩
  have h6 := h5.only o6 (by omega)
  have B6 := only_below B5 (by omega) o6
  clear k0 o6 h5 B5
  go_wp2_with fail
  refine Calls.mono (R := fun e W' => e = .returned (.string ⟨#[0, 0, 1, 2]⟩) ∧ Below W6.heap.size W6 W') ?_ ?_
  · have := layNum_any 258 W6
    rw [tx_is] at this
    exact this
  rintro e W7 ⟨rfl, hb⟩
  have h7 := h6.next hb
  have k7 := k6.next hb
  have B7 := B6.trans (hb.mono B6.size)
  clear h6 k6 B6 hb
  go_wp2_with fail
  refine Calls.mono (R := fun e W' => e = .returned (.string ⟨#[0, 0, 0, 2, 97, 98]⟩) ∧ Below W7.heap.size W7 W') ?_ ?_
  · have := layText_any [97, 98] W7 (by decide)
    rw [tx_is, tx_is] at this
    exact this
  rintro e W8 ⟨rfl, hb⟩
  have h8 := (h7.next hb).cell
  have k8 := (k7.next hb).cell
  have B8 := B7.trans (hb.mono B7.size)
  clear h7 k7 B7 hb
  rw [tx_nil]
  go_wp2
  go_ret
  exact ⟨rfl, B8⟩

end Go.Proofs.Ytghdejepdckahaa
