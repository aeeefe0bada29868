/- Several texts in one: each part says what it proves, and under which conditions. -/
import Derived.Test.YtjnefacdindamaaGreatDoorNat
import Derived.Test.YtjnefacdindamaaGreatDoorLenW

/- nat.Bits answers how many bits a number has, whatever its length. Conditions: the slice reads as limbs; lengths below 2^40. -/
namespace Go.Proofs.YtjnefacdindamaaGreatDoor
open Go.RowKit Go.Shelf Num
set_option linter.unusedVariables false
set_option maxRecDepth 100000

theorem nbits_lim {x : Nat} (hx : x < M) : nbits x ≤ 64 := by
  rw [nbits_le, ← M_two]; exact hx

set_option maxHeartbeats 1000000 in
theorem bits_any (n₀ : Nat) (v : Value) (xs : List Nat) (w : World) (hL : Lim n₀ w v xs) (hlx : xs.length ≤ 1099511627776) :
    Calls Tryz.prog 101 #[v] w fun e w' => e = .returned (.int .i64 ((nbits (val xs) : Nat) : Int)) ∧ w = w' := by
  have ho := hL.ok
  rcases Nat.eq_zero_or_pos (hgt xs) with h0 | hp
  · have hv : val xs = 0 := by
      have h1 := trim_take xs
      rw [h0] at h1
      rw [← val_trim, ← h1]
      rfl
    have HV := Lib.hid hv
    clear hv
    have hd : (((hgt xs : Nat) : Int) == 0) = true := by rw [h0]; rfl
    have H0 := Lib.hid h0
    clear h0
    obtain ⟨A, ca, rfl, _⟩ := id hL
    go_enter Tryz.func101, Tryz.ntmps101
    go_wp2_with (go_at_call 106; refine (height_any _ _ xs _ hL (by omega)).mono ?_; rintro e w' ⟨rfl, rfl⟩)
    go_ret
    exact ⟨ret_int (by rw [HV.out]; rfl), rfl⟩
  · obtain ⟨j, hj⟩ : ∃ j, hgt xs = j + 1 := ⟨hgt xs - 1, by omega⟩
    obtain ⟨e1, e2, e3⟩ := nbits_limbs xs ho j hj
    have E1 := Lib.hid e1
    clear e1
    have hnb := nbits_lim (ok_get ho j)
    have hc := height_any n₀ v xs w hL (by omega)
    rw [hj] at hc
    have HC := Lib.hid hc
    clear hc hj hp e2
    have hd : (((j : Int) + 1) == 0) = false := by simp; omega
    obtain ⟨b, off, cap, rfl, hcap, hb, hcell⟩ := hL.at_ (by omega)
    have hck := hcell j e3
    clear hcell hL
    have hlim := ok_get ho j
    go_enter Tryz.func101, Tryz.ntmps101
    go_wp2_with (first
      | (go_at_call 106; refine HC.out.mono ?_; rintro e w' ⟨rfl, rfl⟩)
      | (go_at_call 82; refine (len64_any _ _ hlim).mono ?_; rintro e w' ⟨rfl, rfl⟩))
    go_ret
    exact ⟨ret_int (by rw [E1.out]; omega), rfl⟩

end Go.Proofs.YtjnefacdindamaaGreatDoor


/- Lists of limbs carried on from world to world, and those that a program writes out. No condition but those named. -/
namespace Go.Proofs.YtjnefacdindamaaGreatDoor
open Go.RowKit Go.Shelf Num
set_option linter.unusedVariables false
set_option maxRecDepth 100000

theorem Lim.next {w W' : World} {v : Value} {xs : List Nat} (h : Lim w.heap.size w v xs) (hb : Below w.heap.size w W') : Lim W'.heap.size W' v xs := (h.below hb).mono hb.size
theorem Lim.alloc {w : World} {v : Value} {xs : List Nat} (h : Lim w.heap.size w v xs) (o : Obj) : Lim (w.alloc o).heap.size (w.alloc o) v xs := h.next ((Below.refl _ _).alloc (Nat.le_refl _) o)

theorem lim_lit1 (w : World) (x : Nat) (hx : x < M) : Lim (w.alloc (.cells #[.int .u64 (x : Int)] 74)).heap.size (w.alloc (.cells #[.int .u64 (x : Int)] 74)) (.slice (some ⟨w.heap.size, 0, none⟩) 1 1) [x] := by
  refine ⟨_, _, rfl, Nat.le_refl _, (fun h => by cases h), ok_one hx, fun hp => ⟨w.heap.size, 0, rfl, by simp, fun j hj => ?_⟩⟩
  have hj0 : j = 0 := by simp at hj; omega
  subst hj0
  simp [lat]

theorem lim_lit2 (w : World) (x y : Nat) (hx : x < M) (hy : y < M) : Lim (w.alloc (.cells #[.int .u64 (x : Int), .int .u64 (y : Int)] 74)).heap.size (w.alloc (.cells #[.int .u64 (x : Int), .int .u64 (y : Int)] 74)) (.slice (some ⟨w.heap.size, 0, none⟩) 2 2) [x, y] := by
  refine ⟨_, _, rfl, Nat.le_refl _, (fun h => by cases h), ok_append (xs := [x]) (ys := [y]) (ok_one hx) (ok_one hy), fun hp => ⟨w.heap.size, 0, rfl, by simp, fun j hj => ?_⟩⟩
  have hj0 : j = 0 ∨ j = 1 := by simp at hj; omega
  rcases hj0 with rfl | rfl <;> simp [lat]

theorem lim_lit1' (w : World) (o : Obj) (x : Nat) (hx : x < M) : Lim ((w.alloc o).alloc (.cells #[.int .u64 (x : Int)] 74)).heap.size ((w.alloc o).alloc (.cells #[.int .u64 (x : Int)] 74)) (.slice (some ⟨w.heap.size + 1, 0, none⟩) 1 1) [x] := by
  have h := lim_lit1 (w.alloc o) x hx
  simpa only [World.size_alloc] using h
theorem lim_lit2' (w : World) (o : Obj) (x y : Nat) (hx : x < M) (hy : y < M) : Lim ((w.alloc o).alloc (.cells #[.int .u64 (x : Int), .int .u64 (y : Int)] 74)).heap.size ((w.alloc o).alloc (.cells #[.int .u64 (x : Int), .int .u64 (y : Int)] 74)) (.slice (some ⟨w.heap.size + 1, 0, none⟩) 2 2) [x, y] := by
  have h := lim_lit2 (w.alloc o) x y hx hy
  simpa only [World.size_alloc] using h

def top : Nat := 18446744073709551615
theorem top_ok : top < M := by decide +kernel
theorem small_ok {n : Nat} (h : n ≤ 9) : n < M := by unfold M; omega

theorem limbs_of (n : Nat) (xs : List Nat) (h : n = val xs) (ho : xs.all (fun x => decide (x < M)) = true) (ht : trim xs = xs) : limbs n = xs := by
  have ok : Ok xs := fun x hx => by simpa using List.all_eq_true.1 ho x hx
  rw [h, limbs_val ok, ht]

end Go.Proofs.YtjnefacdindamaaGreatDoor


/- What the proofs of the laws share: an argument that came in reads as limbs; bounds on sums; the two words 'equal' in one form. -/
namespace Go.Proofs.YtjnefacdindamaaGreatDoor
open Go.RowKit Go.Shelf Num
set_option linter.unusedVariables false
set_option maxRecDepth 100000

theorem cell_lt {w : World} {p : Addr} {v : Value} (h : w.cell? p = some v) : p.block < w.heap.size := by
  rcases Nat.lt_or_ge p.block w.heap.size with h1 | h1
  · exact h1
  · have : w.heap[p.block]? = none := Array.getElem?_eq_none h1
    simp [World.cell?, this] at h

theorem lim_of_row {w : World} {a : Option Addr} {len cap : Nat} {zs : List Int}
    (h : (a = none ∧ len = 0 ∧ cap = 0 ∧ zs = []) ∨ ∃ x, a = some x ∧ len ≤ cap ∧ cap ≤ maxLen ∧ zs.length = cap ∧ (∀ i, i < zs.length → w.cell? (x.add i) = some (.int .u64 (zs.getD i 0))) ∧ ∀ n ∈ zs, (Lit.int .u64 n).wf = true) :
    ∃ xs : List Nat, xs.length = len ∧ Lim w.heap.size w (.slice a len cap) xs := by
  rcases h with ⟨rfl, rfl, rfl, rfl⟩ | ⟨x, rfl, hl, hm, hz, hcell, hwf⟩
  · exact ⟨[], rfl, Lim.nil _ _⟩
  · refine ⟨(zs.take len).map Int.toNat, by simp; omega, ?_⟩
    have hlen : ((zs.take len).map Int.toNat).length = len := by simp; omega
    refine ⟨some x, cap, by rw [hlen], by omega, (fun h => by cases h), ?_, fun hp => ?_⟩
    · intro y hy
      obtain ⟨z, hz1, rfl⟩ := List.mem_map.1 hy
      have h1 := bounds_u64 (hwf z (List.mem_of_mem_take hz1))
      unfold M
      omega
    · rw [hlen] at hp ⊢
      obtain ⟨b, off, rfl, hc⟩ := ints_at hcell (by omega)
      refine ⟨b, off, rfl, cell_lt (hc 0 (by omega)), fun j hj => ?_⟩
      rw [hc j (by omega)]
      have hj2 : j < zs.length := by omega
      have h1 := bounds_u64 (hwf zs[j] (List.getElem_mem hj2))
      have e : lat ((zs.take len).map Int.toNat) j = zs[j].toNat := by simp [lat, hj, hj2]
      rw [e]
      have e2 : zs.getD j 0 = zs[j] := by simp [hj2]
      rw [e2]
      congr 2
      omega


theorem pow_mono {a b : Nat} (h : a ≤ b) : M ^ a ≤ M ^ b := Nat.pow_le_pow_right M_pos h
theorem val_50 {xs : List Nat} (ho : Ok xs) (h : xs.length ≤ 50) : val xs < M ^ 50 := Nat.lt_of_lt_of_le (val_lt ho) (pow_mono h)
theorem nbits_val {xs : List Nat} {k : Nat} (ho : Ok xs) (h : xs.length ≤ k) : nbits (val xs) ≤ 64 * k := nbits_le.2 (by rw [← M_pow]; exact Nat.lt_of_lt_of_le (val_lt ho) (pow_mono h))
theorem limbs_4 {n : Nat} (h : n < 4 * M ^ 50) : (limbs n).length ≤ 51 := by
  refine limbs_len (k := 51) ?_
  rw [Nat.pow_succ]
  have : 4 ≤ M := by unfold M; omega
  have h2 : M ^ 50 * 4 ≤ M ^ 50 * M := Nat.mul_le_mul_left _ this
  omega

end Go.Proofs.YtjnefacdindamaaGreatDoor
