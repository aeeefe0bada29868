/- The document's examples hold (lodgelaw01.awake answers true), and memory below is left as it was. No condition. -/
import Derived.Test.YtkdbmgfpfcfioaaLen
namespace Go.Proofs.Ytkdbmgfpfcfioaa
open Go.RowKit Go.Shelf Num
set_option linter.unusedVariables false

theorem Lim.next {w W' : World} {v : Value} {xs : List Nat} (h : Lim w.heap.size w v xs) (hb : Below w.heap.size w W') : Lim W'.heap.size W' v xs := (h.below hb).mono hb.size
theorem Lim.alloc {w : World} {v : Value} {xs : List Nat} (h : Lim w.heap.size w v xs) (o : Obj) : Lim (w.alloc o).heap.size (w.alloc o) v xs := h.next ((Below.refl _ _).alloc (Nat.le_refl _) o)

theorem lim_lit1 (w : World) (x : Nat) (hx : x < M) : Lim (w.alloc (.cells #[.int .u64 (x : Int)] 35)).heap.size (w.alloc (.cells #[.int .u64 (x : Int)] 35)) (.slice (some ⟨w.heap.size, 0, none⟩) 1 1) [x] := by
  refine ⟨_, _, rfl, Nat.le_refl _, (fun h => by cases h), ok_one hx, fun hp => ⟨w.heap.size, 0, rfl, by simp, fun j hj => ?_⟩⟩
  have hj0 : j = 0 := by simp at hj; omega
  subst hj0
  simp [lat]

theorem lim_lit2 (w : World) (x y : Nat) (hx : x < M) (hy : y < M) : Lim (w.alloc (.cells #[.int .u64 (x : Int), .int .u64 (y : Int)] 35)).heap.size (w.alloc (.cells #[.int .u64 (x : Int), .int .u64 (y : Int)] 35)) (.slice (some ⟨w.heap.size, 0, none⟩) 2 2) [x, y] := by
  refine ⟨_, _, rfl, Nat.le_refl _, (fun h => by cases h), ok_append (xs := [x]) (ys := [y]) (ok_one hx) (ok_one hy), fun hp => ⟨w.heap.size, 0, rfl, by simp, fun j hj => ?_⟩⟩
  have hj0 : j = 0 ∨ j = 1 := by simp at hj; omega
  rcases hj0 with rfl | rfl <;> simp [lat]

theorem lim_lit1' (w : World) (o : Obj) (x : Nat) (hx : x < M) : Lim ((w.alloc o).alloc (.cells #[.int .u64 (x : Int)] 35)).heap.size ((w.alloc o).alloc (.cells #[.int .u64 (x : Int)] 35)) (.slice (some ⟨w.heap.size + 1, 0, none⟩) 1 1) [x] := by
  have h := lim_lit1 (w.alloc o) x hx
  simpa only [World.size_alloc] using h
theorem lim_lit2' (w : World) (o : Obj) (x y : Nat) (hx : x < M) (hy : y < M) : Lim ((w.alloc o).alloc (.cells #[.int .u64 (x : Int), .int .u64 (y : Int)] 35)).heap.size ((w.alloc o).alloc (.cells #[.int .u64 (x : Int), .int .u64 (y : Int)] 35)) (.slice (some ⟨w.heap.size + 1, 0, none⟩) 2 2) [x, y] := by
  have h := lim_lit2 (w.alloc o) x y hx hy
  simpa only [World.size_alloc] using h

def top : Nat := 18446744073709551615
theorem top_ok : top < M := by decide +kernel
theorem small_ok {n : Nat} (h : n ≤ 9) : n < M := by unfold M; omega

theorem limbs_of (n : Nat) (xs : List Nat) (h : n = val xs) (ho : xs.all (fun x => decide (x < M)) = true) (ht : trim xs = xs) : limbs n = xs := by
  have ok : Ok xs := fun x hx => by simpa using List.all_eq_true.1 ho x hx
  rw [h, limbs_val ok, ht]

theorem ex_add : limbs (val [top, top] + val [1]) = [0, 0, 1] := limbs_of _ _ (by decide +kernel) (by decide +kernel) (by decide +kernel)
theorem ex_sub : limbs (val [0, 0, 1] - val [1]) = [top, top] := limbs_of _ _ (by decide +kernel) (by decide +kernel) (by decide +kernel)
theorem ex_le : val [1] ≤ val [0, 0, 1] := by decide +kernel
theorem ex_lt : val [1] < val [2] := by decide +kernel
theorem ex_cmp1 : cmpN (val [1, 0]) (val [1]) = 0 := by decide +kernel
theorem ex_cmp2 : cmpN (val [0, 1]) (val [9]) = 1 := by decide +kernel
theorem ex_bits : nbits (val [0, 1]) = 65 := by decide +kernel
theorem ex_bit : bitN (val [0, 1]) 64 = 1 := by decide +kernel
theorem ex_trim : limbs (val [0, 0]) = [] := limbs_of _ _ (by decide +kernel) (by decide +kernel) (by decide +kernel)
theorem ex_double : limbs (2 * val [top] + ((1 : Int) % 2).toNat) = [top, 1] := limbs_of _ _ (by decide +kernel) (by decide +kernel) (by decide +kernel)

set_option maxRecDepth 100000 in
set_option maxHeartbeats 4000000 in
theorem awake_any (w : World) : Calls Try.prog 9 #[] w fun e W' => e = .returned (.bool true) ∧ Below w.heap.size w W' := by
  go_enter Try.func9, Try.ntmps9
  go_wp2_with fail
  refine (add_any _ _ [top, top] [1] _ ((lim_lit2 w top top top_ok top_ok).alloc _) (lim_lit1' w _ 1 (small_ok (by omega))) (by simp) (by simp)).mono ?_
  rintro e W1 ⟨va, rfl, hLa, hb⟩
  rw [ex_add] at hLa
  have hB1 : Below w.heap.size w W1 := (((Below.refl _ w).alloc (Nat.le_refl _) _).alloc (by simp) _).trans (hb.mono (by simp; omega))
  clear hb
  go_wp2_with fail
  refine (sub_yes _ _ [0, 0, 1] [1] _ (hLa.alloc _) (lim_lit1 _ 1 (small_ok (by omega))) (by simp) (by simp) ex_le).mono ?_
  rintro e W2 ⟨vb, rfl, hLb, hb⟩
  rw [ex_sub] at hLb
  have hLa2 := (hLa.alloc _).next hb
  have hB2 : Below w.heap.size w W2 := (hB1.alloc hB1.size _).trans (hb.mono (by have := hB1.size; simp; omega))
  clear hb hLa hB1
  go_wp2_with fail
  refine (sub_no _ _ [1] [2] _ ((lim_lit1 W2 1 (small_ok (by omega))).alloc _) (lim_lit1' W2 _ 2 (small_ok (by omega))) (by simp) (by simp) ex_lt).mono ?_
  rintro e W3 ⟨rfl, hb⟩
  have hLa3 := ((hLa2.alloc _).alloc _).next hb
  have hLb3 := ((hLb.alloc _).alloc _).next hb
  have hB3 : Below w.heap.size w W3 := ((hB2.alloc hB2.size _).alloc (by have := hB2.size; simp; omega) _).trans (hb.mono (by have := hB2.size; simp; omega))
  clear hb hLa2 hLb hB2
  obtain ⟨b1, o1, c1, rfl, hc1, hbl1, hcell1⟩ := hLa3.at_ (by simp)
  obtain ⟨b2, o2, c2, rfl, hc2, hbl2, hcell2⟩ := hLb3.at_ (by simp)
  have k1 : W3.cell? ⟨b1, o1 + 2, none⟩ = some (.int .u64 1) := hcell1 2 (by simp)
  have k2 : W3.cell? ⟨b1, o1, none⟩ = some (.int .u64 0) := hcell1 0 (by simp)
  have k3 : W3.cell? ⟨b2, o2 + 1, none⟩ = some (.int .u64 18446744073709551615) := hcell2 1 (by simp)
  clear hcell1 hcell2 hLa3 hLb3
  clear hc1 hc2 hbl1 hbl2
  go_wp2_with fail
  clear k1 k2 k3
  have q1 := compare_any _ _ [1, 0] [1] _ ((lim_lit2 W3 1 0 (small_ok (by omega)) (small_ok (by omega))).alloc (.cells #[.int .u64 1] 35)) (lim_lit1' W3 _ 1 (small_ok (by omega))) (by simp) (by simp)
  rw [ex_cmp1] at q1
  refine q1.mono ?_
  clear q1
  rintro e W4 ⟨rfl, hb⟩
  have hB4 : Below w.heap.size w W4 := ((hB3.alloc hB3.size _).alloc (by have := hB3.size; simp; omega) _).trans (hb.mono (by have := hB3.size; simp; omega))
  clear hb hB3
  go_wp2_with fail
  have q2 := compare_any _ _ [0, 1] [9] _ ((lim_lit2 W4 0 1 (small_ok (by omega)) (small_ok (by omega))).alloc (.cells #[.int .u64 9] 35)) (lim_lit1' W4 _ 9 (small_ok (by omega))) (by simp) (by simp)
  rw [ex_cmp2] at q2
  refine q2.mono ?_
  clear q2
  rintro e W5 ⟨rfl, hb⟩
  have hB5 : Below w.heap.size w W5 := ((hB4.alloc hB4.size _).alloc (by have := hB4.size; simp; omega) _).trans (hb.mono (by have := hB4.size; simp; omega))
  clear hb hB4
  go_wp2_with fail
  have q3 := bits_any _ _ [0, 1] _ (lim_lit2 W5 0 1 (small_ok (by omega)) (small_ok (by omega))) (by simp)
  rw [ex_bits] at q3
  refine q3.mono ?_
  clear q3
  rintro e W6 ⟨rfl, rfl⟩
  go_wp2_with fail
  have q4 := bit_any _ _ [0, 1] 64 _ (lim_lit2' W5 (.cells #[.int .u64 0, .int .u64 1] 35) 0 1 (small_ok (by omega)) (small_ok (by omega))) (by omega)
  rw [ex_bit] at q4
  refine q4.mono ?_
  clear q4
  rintro e W6 ⟨rfl, rfl⟩
  go_wp2_with fail
  have l5 := lim_lit2' (W5.alloc (.cells #[.int .u64 0, .int .u64 1] 35)) (.cells #[.int .u64 0, .int .u64 1] 35) 0 0 (small_ok (by omega)) (small_ok (by omega))
  rw [World.size_alloc W5] at l5
  refine (trim_any _ [0, 0] _ l5 (by simp)).mono ?_
  clear l5
  rintro e W6 ⟨vt, rfl, hLt, hb⟩
  rw [ex_trim] at hLt
  obtain ⟨At, ct, rfl, _⟩ := hLt
  have hB6 : Below w.heap.size w W6 := (((hB5.alloc hB5.size _).alloc (by have := hB5.size; simp; omega) _).alloc (by have := hB5.size; simp; omega) _).trans (hb.mono (by have := hB5.size; simp; omega))
  clear hb hB5
  go_wp2_with fail
  have q5 := double_any _ [top] 1 _ (lim_lit1 W6 top top_ok) (by simp) (by omega) (by omega)
  refine q5.mono ?_
  clear q5
  rintro e W7 ⟨vd, rfl, hLd, hb⟩
  rw [ex_double] at hLd
  obtain ⟨b3, o3, c3, rfl, _, _, hcell3⟩ := hLd.at_ (by simp)
  have k4 : W7.cell? ⟨b3, o3, none⟩ = some (.int .u64 18446744073709551615) := hcell3 0 (by simp)
  have hB7 : Below w.heap.size w W7 := (hB6.alloc hB6.size _).trans (hb.mono (by have := hB6.size; simp; omega))
  clear hb hB6 hcell3 hLd
  go_wp2
  go_ret
  exact ⟨rfl, hB7⟩

end Go.Proofs.Ytkdbmgfpfcfioaa
