/- modulus.Power's closure (for even numbers): what a product leaves. Conditions: the slices read as limbs; the box that it captures holds the number; lengths below 2^37. -/
import Derived.Test.YtmbdidompjgaaaaModR
namespace Go.Proofs.Ytmbdidompjgaaaa
open Go.RowKit Go.Shelf Num
set_option linter.unusedVariables false

set_option maxRecDepth 100000 in
set_option maxHeartbeats 4000000 in
theorem closure_any (b : Nat) (z x y : Value) (zs xs ys : List Nat) (w : World) (hbox : w.cell? ⟨b, 0, none⟩ = some z) (hLz : Lim w.heap.size w z zs) (hLx : Lim w.heap.size w x xs) (hLy : Lim w.heap.size w y ys)
    (hlz : zs.length ≤ 68719476736) (hlx : xs.length ≤ 68719476736) (hly : ys.length ≤ 68719476736) (h0 : val zs ≠ 0) :
    Calls Try.prog 54 #[x, y, .pointer (some ⟨b, 0, none⟩)] w (Gives (val xs * val ys % val zs) w) := by
  have hbl := lt_of_cell hbox
  have hll : (limbs (val xs * val ys)).length ≤ xs.length + ys.length := by
    refine limbs_len ?_
    rw [Nat.pow_add]
    exact Nat.mul_lt_mul'' (val_lt hLx.ok) (val_lt hLy.ok)
  have hbox2 : w.drew.cell? ⟨b, 0, none⟩ = some z := hbox
  have K1 := mul_any x y xs ys w.drew hLx hLy (by omega) (by omega)
  have HK1 := Lib.hid K1
  clear K1
  obtain ⟨A, ca, rfl, _⟩ := id hLx
  obtain ⟨B, cb, rfl, _⟩ := id hLy
  obtain ⟨C, cc, rfl, _⟩ := id hLz
  have K2 : ∀ (W : World) (r : Value), Below w.drew.heap.size w.drew W → Lim W.heap.size W r (limbs (val xs * val ys)) → Calls Try.prog 50 #[r, .slice C zs.length cc] W (GivesOk (val xs * val ys % val zs) W) := by
    intro W r hB hL
    have h := rest_any r (.slice C zs.length cc) _ zs W hL ((show Lim w.drew.heap.size w.drew _ _ from hLz).next hB) (by omega) (by omega) h0
    rwa [val_limbs] at h
  have HK2 := Lib.hid K2
  clear K2
  go_enter Try.func54, Try.ntmps54
  go_wp2_with fail
  go_region_with (first
    | (go_at_call 50; refine (HK2.out _ _ hB1 L1).mono ?_; rintro e W2 ⟨r2, rfl, L2, hB2⟩)
    | (go_at_call 55; refine HK1.out.mono ?_; rintro e W1 ⟨r1, rfl, L1, hB1⟩; have hbox3 : W1.cell? ⟨b, 0, none⟩ = some (.slice C zs.length cc) := (hB1.cell (p := ⟨b, 0, none⟩) hbl).trans hbox2))
  all_goals
    go_wp2
    go_ret
    exact ⟨r2, rfl, L2, ((Below.refl _ w).drew).trans (hB1.trans (hB2.mono hB1.size))⟩

end Go.Proofs.Ytmbdidompjgaaaa
