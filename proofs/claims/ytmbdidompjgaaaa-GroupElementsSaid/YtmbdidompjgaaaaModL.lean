/- modulus.Rest and modulus.Times; (modulus.odd).lift. Conditions: the slices read as limbs; lengths below 2^37. -/
import Derived.Test.YtmbdidompjgaaaaDivideM
import Derived.Test.YtmbdidompjgaaaaMulW
import Derived.Test.YtmbdidompjgaaaaModF
import Derived.Test.YtmbdidompjgaaaaApp
namespace Go.Proofs.Ytmbdidompjgaaaa
open Go.RowKit Go.Shelf Num
set_option linter.unusedVariables false

/-- Answers the limbs of n, and true; nothing below is turned. -/
def GivesOk (n : Nat) (w : World) : Ending → World → Prop := fun e W' => ∃ r, e = .returned (.tuple #[r, .bool true]) ∧ Lim W'.heap.size W' r (limbs n) ∧ Below w.heap.size w W'
/-- Answers nothing, and false. -/
def GivesNo (w : World) : Ending → World → Prop := fun e W' => e = .returned (.tuple #[.slice none 0 0, .bool false]) ∧ Below w.heap.size w W'

set_option maxRecDepth 100000 in
set_option maxHeartbeats 4000000 in
theorem rest_zero (v u : Value) (xs ys : List Nat) (w : World) (hLa : Lim w.heap.size w v xs) (hLb : Lim w.heap.size w u ys) (hlx : xs.length ≤ 274877906944) (hly : ys.length ≤ 274877906944) (h0 : val ys = 0) :
    Calls Try.prog 50 #[v, u] w (GivesNo w) := by
  have HD := Lib.hid (divide_zero v u xs ys w hLa hLb hlx hly h0)
  obtain ⟨A, ca, rfl, _⟩ := id hLa
  obtain ⟨B, cb, rfl, _⟩ := id hLb
  go_enter Try.func50, Try.ntmps50
  go_wp2_with fail
  refine HD.out.mono ?_
  rintro e W1 ⟨rfl, hB⟩
  go_wp2
  go_ret2
  exact ⟨rfl, hB⟩

set_option maxRecDepth 100000 in
set_option maxHeartbeats 4000000 in
theorem rest_any (v u : Value) (xs ys : List Nat) (w : World) (hLa : Lim w.heap.size w v xs) (hLb : Lim w.heap.size w u ys) (hlx : xs.length ≤ 274877906944) (hly : ys.length ≤ 274877906944) (h0 : val ys ≠ 0) :
    Calls Try.prog 50 #[v, u] w (GivesOk (val xs % val ys) w) := by
  have HD := Lib.hid (divide_any v u xs ys w hLa hLb hlx hly h0)
  obtain ⟨A, ca, rfl, _⟩ := id hLa
  obtain ⟨B, cb, rfl, _⟩ := id hLb
  go_enter Try.func50, Try.ntmps50
  go_wp2_with fail
  refine HD.out.mono ?_
  rintro e W1 ⟨vq, vr, rfl, _, hLr, hB⟩
  go_wp2
  go_ret2
  exact ⟨vr, rfl, hLr, hB⟩

theorem rem_len {a : Nat} {ys : List Nat} (ho : Ok ys) (h0 : val ys ≠ 0) : (limbs (a % val ys)).length ≤ ys.length :=
  limbs_len (Nat.lt_trans (Nat.mod_lt _ (by omega)) (val_lt ho))
theorem prod_len {a b : Nat} {ys : List Nat} (ho : Ok ys) (h0 : val ys ≠ 0) : (limbs (a % val ys * (b % val ys))).length ≤ ys.length + ys.length := by
  refine limbs_len ?_
  rw [Nat.pow_add]
  have h1 := Nat.lt_trans (Nat.mod_lt a (show 0 < val ys by omega)) (val_lt ho)
  have h2 := Nat.lt_trans (Nat.mod_lt b (show 0 < val ys by omega)) (val_lt ho)
  exact Nat.mul_lt_mul'' h1 h2


/-- What lies above as many noughts. -/
theorem lifted_val (n : Nat) (xs : List Nat) : val (noughts n ++ xs) = val xs * M ^ n := by rw [val_append, noughts_val, noughts_len, Nat.zero_add, Nat.mul_comm]

theorem lt_of_cell {w : World} {b j : Nat} {u : Value} (h : w.cell? ⟨b, j, none⟩ = some u) : b < w.heap.size := by
  rcases Nat.lt_or_ge b w.heap.size with h1 | h1
  · exact h1
  · have h2 : w.heap[b]? = none := Array.getElem?_eq_none h1
    simp [World.cell?, h2] at h
theorem box_kept {w w1 : World} {a b : Value} {t : TypeId} {o : Obj} {n c : Nat} (h : ((w.alloc (.cells #[a, b] t)).alloc o).grownBy w1 (Value.slice (some ⟨w.heap.size + 1, 0, none⟩) n c).ownBlock) : Below w.heap.size w w1 ∧ w1.cell? ⟨w.heap.size, 0, none⟩ = some a ∧ w1.cell? ⟨w.heap.size, 1, none⟩ = some b := by
  have hB : Below (w.heap.size + 1) (w.alloc (.cells #[a, b] t)) w1 := ((Below.refl (w.heap.size + 1) (w.alloc (.cells #[a, b] t))).alloc (by simp) o).grown h (by simp) (fun k e => by simp [Value.ownBlock] at e; omega)
  refine ⟨((Below.refl _ w).alloc (Nat.le_refl _) _).trans (hB.mono (by omega)), ?_, ?_⟩
  · rw [hB.cell (p := ⟨w.heap.size, 0, none⟩) (by simp)]; simp
  · rw [hB.cell (p := ⟨w.heap.size, 1, none⟩) (by simp)]; simp

set_option maxRecDepth 100000 in
set_option maxHeartbeats 4000000 in
theorem lift_any (v u : Value) (ms xs : List Nat) (i : Nat) (w : World) (hLm : Lim w.heap.size w v ms) (hLx : Lim w.heap.size w u xs) (hlm : ms.length ≤ 68719476736) (hle : xs.length ≤ 68719476736) (h0 : val ms ≠ 0) :
    Calls Try.prog 68 #[.agg #[v, .int .u64 (i : Int)], u] w (Fills ms.length (val xs * M ^ ms.length % val ms) w) := by
  obtain ⟨i0, hi, hz0, hz1, hz2⟩ := info_parts infoU
  have hox := hLx.ok
  have hl1 := rem_len (a := val xs * M ^ ms.length) hLm.ok h0
  obtain ⟨A, ca, rfl, hca, hna, _, hra⟩ := id hLm
  obtain ⟨B, cb, rfl, hcb, hnb, _, hrb⟩ := id hLx
  have ow0 : ((w.alloc (.cells #[.slice A ms.length ca, .int .u64 (i : Int)] 72)).alloc (.cells (madeCells #[.int .u64 0] ms.length) 28)).ownsRow (w.heap.size + 1) 28 1 (.slice (some ⟨w.heap.size + 1, 0, none⟩) ms.length ms.length) ms.length (Us (noughts ms.length)) := by
    rw [made_noughts]
    have h := World.ownsRow_lit (base := w.heap.size + 1) (e := 28) (size := 1) (w.alloc (.cells #[.slice A ms.length ca, .int .u64 (i : Int)] 72)) (Us (noughts ms.length)).toArray ms.length (by simp) (by unfold maxLen; omega) (by simp [Us_length, noughts_len])
    simpa only [World.size_alloc] using h
  go_enter Try.func68, Try.ntmps68
  go_wp2_with (first
    | refine wpList_make_row _ rfl _ _ 25 rfl 28 i0 (.int .u64 0) Try.underlying25 hi hz0 hz1 rfl .i64 .i64 ms.length rfl rfl (by rw [hz2]; omega) (by omega) ?_
    | (at_builtin; (refine append_lim _ (by rfl) (.tmp 11) (.tmp 12) rfl (w.heap.size + 1) (.slice (some ⟨w.heap.size + 1, 0, none⟩) ms.length ms.length) ms.length (Us (noughts ms.length)) rfl ow0 _ B xs.length cb xs rfl ((hLx.alloc _).alloc _) (by omega) (by simp only [World.size_alloc]; omega) ?_; intro v' w1 own1 grow1; obtain ⟨hB1, hc0, hc1⟩ := box_kept grow1)))
  rw [← Us_append] at own1
  have hown := Lim.of_own own1 (ok_append (noughts_ok _) hox) (Nat.le_refl _)
  have hLm1 := hLm.next hB1
  refine (rest_any v' _ _ ms w1 hown hLm1 (by rw [List.length_append, noughts_len]; omega) (by omega) h0).mono ?_
  rintro e W2 ⟨r2, rfl, L2, hB2⟩
  rw [lifted_val] at L2
  have hB1w : w.heap.size < w1.heap.size := lt_of_cell hc0
  have hc2 : W2.cell? ⟨w.heap.size, 0, none⟩ = some (.slice A ms.length ca) := (hB2.cell (p := ⟨w.heap.size, 0, none⟩) hB1w).trans hc0
  have hc3 : W2.cell? ⟨w.heap.size, 1, none⟩ = some (.int .u64 (i : Int)) := (hB2.cell (p := ⟨w.heap.size, 1, none⟩) hB1w).trans hc1
  clear own1 grow1
  go_wp2_with fail
  refine (fill_any _ r2 ms _ i W2 (hLm1.next hB2) L2 (by omega) hl1).mono ?_
  rintro e W3 ⟨r3, rs, rfl, L3, hl3, hv3, hB3⟩
  rw [val_limbs] at hv3
  go_wp2
  go_ret
  have B2 := hB1.trans (hB2.mono hB1.size)
  exact ⟨r3, rs, rfl, L3, hl3, hv3, B2.trans (hB3.mono B2.size)⟩

end Go.Proofs.Ytmbdidompjgaaaa
