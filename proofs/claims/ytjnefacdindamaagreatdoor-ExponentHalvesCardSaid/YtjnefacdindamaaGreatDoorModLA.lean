/- Several texts in one: each part says what it proves, and under which conditions. -/
import Derived.Test.YtjnefacdindamaaGreatDoorDivA
import Derived.Test.YtjnefacdindamaaGreatDoorMulA
import Derived.Test.YtjnefacdindamaaGreatDoorModFA
import Derived.Test.YtjnefacdindamaaGreatDoorLenA

/- modulus.Rest and modulus.Times; (modulus.odd).lift. Conditions: the slices read as limbs; lengths below 2^37. -/
namespace Go.Proofs.YtjnefacdindamaaGreatDoor
open Go.RowKit Go.Shelf Num
set_option linter.unusedVariables false
set_option maxRecDepth 100000

/-- Answers the limbs of n, and true; nothing below is turned. -/
def GivesOk (n : Nat) (w : World) : Ending → World → Prop := fun e W' => ∃ r, e = .returned (.tuple #[r, .bool true]) ∧ Lim W'.heap.size W' r (limbs n) ∧ Below w.heap.size w W'
/-- Answers nothing, and false. -/
def GivesNo (w : World) : Ending → World → Prop := fun e W' => e = .returned (.tuple #[.slice none 0 0, .bool false]) ∧ Below w.heap.size w W'

set_option maxRecDepth 100000 in
set_option maxHeartbeats 4000000 in
theorem rest_zero (v u : Value) (xs ys : List Nat) (w : World) (hLa : Lim w.heap.size w v xs) (hLb : Lim w.heap.size w u ys) (hlx : xs.length ≤ 274877906944) (hly : ys.length ≤ 274877906944) (h0 : val ys = 0) :
    Calls Tryz.prog 89 #[v, u] w (GivesNo w) := by
  have HD := Lib.hid (divide_zero v u xs ys w hLa hLb hlx hly h0)
  obtain ⟨A, ca, rfl, _⟩ := id hLa
  obtain ⟨B, cb, rfl, _⟩ := id hLb
  go_enter Tryz.func89, Tryz.ntmps89
  go_wp2_with fail
  refine HD.out.mono ?_
  rintro e W1 ⟨rfl, hB⟩
  go_wp2
  go_ret2
  exact ⟨rfl, hB⟩

set_option maxRecDepth 100000 in
set_option maxHeartbeats 4000000 in
theorem rest_any (v u : Value) (xs ys : List Nat) (w : World) (hLa : Lim w.heap.size w v xs) (hLb : Lim w.heap.size w u ys) (hlx : xs.length ≤ 274877906944) (hly : ys.length ≤ 274877906944) (h0 : val ys ≠ 0) :
    Calls Tryz.prog 89 #[v, u] w (GivesOk (val xs % val ys) w) := by
  have HD := Lib.hid (divide_any v u xs ys w hLa hLb hlx hly h0)
  obtain ⟨A, ca, rfl, _⟩ := id hLa
  obtain ⟨B, cb, rfl, _⟩ := id hLb
  go_enter Tryz.func89, Tryz.ntmps89
  go_wp2_with fail
  refine HD.out.mono ?_
  rintro e W1 ⟨vq, vr, rfl, _, hLr, hB⟩
  go_wp2
  go_ret2
  exact ⟨vr, rfl, hLr, hB⟩

theorem rem_len {a : Nat} {ys : List Nat} (ho : Ok ys) (h0 : val ys ≠ 0) : (limbs (a % val ys)).length ≤ ys.length :=
  limbs_len (Nat.lt_trans (Nat.mod_lt _ (by omega)) (val_lt ho))
theorem prod_len {a b : Nat} {ys : List Nat} (ho : Ok ys) (h0 : val ys ≠ 0) : (limbs (a % val ys * (b % val ys))).length ≤ ys.length + ys.length := by
  refine limbs_len ?_
  rw [Nat.pow_add]
  have h1 := Nat.lt_trans (Nat.mod_lt a (show 0 < val ys by omega)) (val_lt ho)
  have h2 := Nat.lt_trans (Nat.mod_lt b (show 0 < val ys by omega)) (val_lt ho)
  exact Nat.mul_lt_mul'' h1 h2


/-- What lies above as many noughts. -/
theorem lifted_val (n : Nat) (xs : List Nat) : val (noughts n ++ xs) = val xs * M ^ n := by rw [val_append, noughts_val, noughts_len, Nat.zero_add, Nat.mul_comm]

theorem lt_of_cell {w : World} {b j : Nat} {u : Value} (h : w.cell? ⟨b, j, none⟩ = some u) : b < w.heap.size := by
  rcases Nat.lt_or_ge b w.heap.size with h1 | h1
  · exact h1
  · have h2 : w.heap[b]? = none := Array.getElem?_eq_none h1
    simp [World.cell?, h2] at h
theorem box_kept {w w1 : World} {a b : Value} {t : TypeId} {o : Obj} {n c : Nat} (h : ((w.alloc (.cells #[a, b] t)).alloc o).grownBy w1 (Value.slice (some ⟨w.heap.size + 1, 0, none⟩) n c).ownBlock) : Below w.heap.size w w1 ∧ w1.cell? ⟨w.heap.size, 0, none⟩ = some a ∧ w1.cell? ⟨w.heap.size, 1, none⟩ = some b := by
  have hB : Below (w.heap.size + 1) (w.alloc (.cells #[a, b] t)) w1 := ((Below.refl (w.heap.size + 1) (w.alloc (.cells #[a, b] t))).alloc (by simp) o).grown h (by simp) (fun k e => by simp [Value.ownBlock] at e; omega)
  refine ⟨((Below.refl _ w).alloc (Nat.le_refl _) _).trans (hB.mono (by omega)), ?_, ?_⟩
  · rw [hB.cell (p := ⟨w.heap.size, 0, none⟩) (by simp)]; simp
  · rw [hB.cell (p := ⟨w.heap.size, 1, none⟩) (by simp)]; simp

set_option maxRecDepth 100000 in
set_option maxHeartbeats 4000000 in
theorem lift_any (v u : Value) (ms xs : List Nat) (i : Nat) (w : World) (hLm : Lim w.heap.size w v ms) (hLx : Lim w.heap.size w u xs) (hlm : ms.length ≤ 68719476736) (hle : xs.length ≤ 68719476736) (h0 : val ms ≠ 0) :
    Calls Tryz.prog 111 #[.agg #[v, .int .u64 (i : Int)], u] w (Fills ms.length (val xs * M ^ ms.length % val ms) w) := by
  obtain ⟨i0, hi, hz0, hz1, hz2⟩ := info_parts infoU
  have hox := hLx.ok
  have hl1 := rem_len (a := val xs * M ^ ms.length) hLm.ok h0
  obtain ⟨A, ca, rfl, hca, hna, _, hra⟩ := id hLm
  obtain ⟨B, cb, rfl, hcb, hnb, _, hrb⟩ := id hLx
  have ow0 : ((w.alloc (.cells #[.slice A ms.length ca, .int .u64 (i : Int)] 123)).alloc (.cells (madeCells #[.int .u64 0] ms.length) 74)).ownsRow (w.heap.size + 1) 74 1 (.slice (some ⟨w.heap.size + 1, 0, none⟩) ms.length ms.length) ms.length (Us (noughts ms.length)) := by
    rw [made_noughts]
    have h := World.ownsRow_lit (base := w.heap.size + 1) (e := 74) (size := 1) (w.alloc (.cells #[.slice A ms.length ca, .int .u64 (i : Int)] 123)) (Us (noughts ms.length)).toArray ms.length (by simp) (by unfold maxLen; omega) (by simp [Us_length, noughts_len])
    simpa only [World.size_alloc] using h
  go_enter Tryz.func111, Tryz.ntmps111
  go_wp2_with (first
    | refine wpList_make_row _ rfl _ _ 69 rfl 74 i0 (.int .u64 0) Tryz.underlying69 hi hz0 hz1 rfl .i64 .i64 ms.length rfl rfl (by rw [hz2]; omega) (by omega) ?_
    | (at_builtin; (refine append_lim _ (by rfl) (.tmp 11) (.tmp 12) rfl (w.heap.size + 1) (.slice (some ⟨w.heap.size + 1, 0, none⟩) ms.length ms.length) ms.length (Us (noughts ms.length)) rfl ow0 _ B xs.length cb xs rfl ((hLx.alloc _).alloc _) (by omega) (by simp only [World.size_alloc]; omega) ?_; intro v' w1 own1 grow1; obtain ⟨hB1, hc0, hc1⟩ := box_kept grow1)))
  rw [← Us_append] at own1
  have hown := Lim.of_own own1 (ok_append (noughts_ok _) hox) (Nat.le_refl _)
  have hLm1 := hLm.next hB1
  refine (rest_any v' _ _ ms w1 hown hLm1 (by rw [List.length_append, noughts_len]; omega) (by omega) h0).mono ?_
  rintro e W2 ⟨r2, rfl, L2, hB2⟩
  rw [lifted_val] at L2
  have hB1w : w.heap.size < w1.heap.size := lt_of_cell hc0
  have hc2 : W2.cell? ⟨w.heap.size, 0, none⟩ = some (.slice A ms.length ca) := (hB2.cell (p := ⟨w.heap.size, 0, none⟩) hB1w).trans hc0
  have hc3 : W2.cell? ⟨w.heap.size, 1, none⟩ = some (.int .u64 (i : Int)) := (hB2.cell (p := ⟨w.heap.size, 1, none⟩) hB1w).trans hc1
  clear own1 grow1
  go_wp2_with fail
  refine (fill_any _ r2 ms _ i W2 (hLm1.next hB2) L2 (by omega) hl1).mono ?_
  rintro e W3 ⟨r3, rs, rfl, L3, hl3, hv3, hB3⟩
  rw [val_limbs] at hv3
  go_wp2
  go_ret
  have B2 := hB1.trans (hB2.mono hB1.size)
  exact ⟨r3, rs, rfl, L3, hl3, hv3, B2.trans (hB3.mono B2.size)⟩

end Go.Proofs.YtjnefacdindamaaGreatDoor


/- modulus.raise answers what its function's products come to, by the bits of the exponent: for the method value and for the closure that it is handed. Conditions: the slices read as limbs; lengths below 2^38; what the function answers at each two that were reached. -/
namespace Go.Proofs.YtjnefacdindamaaGreatDoor
open Go.RowKit Go.Shelf Num
set_option linter.unusedVariables false
set_option maxRecDepth 100000

/-- Answers a list of which P holds; nothing below is turned. -/
def Has (P : List Nat → Prop) (w : World) : Ending → World → Prop := fun e W' => ∃ r rs, e = .returned r ∧ Lim W'.heap.size W' r rs ∧ P rs ∧ Below w.heap.size w W'

theorem nbits_len {xs : List Nat} (ho : Ok xs) : nbits (val xs) ≤ 64 * xs.length := by
  refine nbits_le.2 ?_
  rw [← M_pow]
  exact val_lt ho

set_option maxRecDepth 100000 in
set_option maxHeartbeats 4000000 in
theorem raise_times (S : Nat → List Nat → Prop) (o : Value) (vo vb ve : Value) (os bs es : List Nat) (w : World) (hLo : Lim w.heap.size w vo os) (hLb : Lim w.heap.size w vb bs) (hLe : Lim w.heap.size w ve es) (hle : es.length ≤ 137438953472)
    (h0 : S 0 os) (h1 : S 1 bs)
    (HT : ∀ (W : World) (x y : Value) (xs ys : List Nat) (k l : Nat), Below w.heap.size w W → Lim W.heap.size W x xs → Lim W.heap.size W y ys → S k xs → S l ys → Calls Tryz.prog 112 #[o, x, y] W (Has (S (k + l)) W)) :
    Calls Tryz.prog 97 #[vo, vb, ve, .func (.func 112) #[o] #[]] w (Has (S (val es)) w) := by
  have hnb := nbits_len hLe.ok
  have hS0 : S (val es / 2 ^ nbits (val es)) os := by rw [half_top]; exact h0
  have HS0 := Lib.hid hS0
  have HK := Lib.hid HT
  have H1 := Lib.hid h1
  clear HT hS0 h0 h1
  obtain ⟨A, ca, rfl, _⟩ := id hLo
  obtain ⟨B, cb, rfl, _⟩ := id hLb
  obtain ⟨C, cc, rfl, _⟩ := id hLe
  go_enter Tryz.func97, Tryz.ntmps97
  go_wp2_with fail
  refine (bits_any w.heap.size _ es w hLe (by omega)).mono ?_
  rintro e W1 ⟨rfl, rfl⟩
  generalize hN : nbits (val es) = N at *
  go_wp2
  go_loopw [9, 10] (fun p i wr => ∃ (c : Nat) (rs : List Nat), c ≤ N ∧ i = .int .i64 ((c : Int) - 1) ∧ Lim wr.heap.size wr p rs ∧ S (val es / 2 ^ c) rs ∧ Below w.heap.size w wr)
    (fun _ i _ => (intOf i + 1).toNat)
  case atStart => exact ⟨N, os, Nat.le_refl _, rfl, hLo, HS0.out, Below.refl _ _⟩
  case round =>
    obtain ⟨c, rs, hc, rfl, hLp, hS, hB⟩ := hrel
    have HS := Lib.hid hS
    clear hS
    rcases Nat.eq_zero_or_pos c with rfl | hp
    · have hd : decide (0 ≤ (((0 : Nat) : Int) - 1)) = false := by simp
      go_wp2
      go_ret
      refine ⟨_, rs, rfl, hLp, ?_, hB⟩
      have := HS.out
      rwa [half_zero] at this
    · obtain ⟨j, rfl⟩ : ∃ j, c = j + 1 := ⟨c - 1, by omega⟩
      rw [show (((j + 1 : Nat) : Int) - 1) = (j : Int) by omega]
      have hd : decide (0 ≤ (j : Int)) = true := by simp
      have K1 := HK.out wr _ _ rs rs _ _ hB hLp hLp HS.out HS.out
      have HK1 := Lib.hid K1
      clear K1
      obtain ⟨P, cp, rfl, _⟩ := id hLp
      go_wp2_with fail
      refine HK1.out.mono ?_
      rintro e W2 ⟨r2, rs2, rfl, L2, S2, hB2⟩
      have hB12 := hB.trans (hB2.mono hB.size)
      have HS2 := Lib.hid S2
      clear S2 HK1
      have hst := half_step (val es) j
      have K2 := bit_any W2.heap.size (.slice C es.length cc) es j W2 ((hLe.next hB).next hB2) (by omega)
      rcases (show bitN (val es) j = 0 ∨ bitN (val es) j = 1 by have := bitN_le (val es) j; omega) with hbit | hbit
      · rw [hbit] at K2 hst
        have HST := Lib.hid hst
        have HK2 := Lib.hid K2
        clear K2 hst
        go_wp2_with fail
        refine HK2.out.mono ?_
        rintro e W3 ⟨rfl, rfl⟩
        go_wp2_with fail
        go_roundw
        case rel =>
          refine ⟨j, rs2, by omega, by go_num, L2, ?_, hB12⟩
          have e := HST.out
          rw [Nat.add_zero] at e
          rw [e]
          exact HS2.out
        case measure => simp [intOf]
      · rw [hbit] at K2 hst
        have HST := Lib.hid hst
        have HK2 := Lib.hid K2
        have K3 := HK.out W2 r2 _ rs2 bs _ _ hB12 L2 ((hLb.next hB).next hB2) HS2.out H1.out
        have HK3 := Lib.hid K3
        clear K2 hst K3
        obtain ⟨P2, cp2, rfl, _⟩ := id L2
        go_wp2_with fail
        refine HK2.out.mono ?_
        rintro e W3 ⟨rfl, rfl⟩
        go_wp2_with fail
        refine HK3.out.mono ?_
        rintro e W4 ⟨r4, rs4, rfl, L4, S4, hB4⟩
        have HS4 := Lib.hid S4
        clear S4
        go_wp2_with fail
        go_roundw
        case rel =>
          refine ⟨j, rs4, by omega, by go_num, L4, ?_, hB12.trans (hB4.mono hB12.size)⟩
          rw [HST.out]
          exact HS4.out
        case measure => simp [intOf]

set_option maxRecDepth 100000 in
set_option maxHeartbeats 4000000 in
theorem raise_closure (S : Nat → List Nat → Prop) (b : Nat) (vo vb ve : Value) (os bs es : List Nat) (w : World) (hLo : Lim w.heap.size w vo os) (hLb : Lim w.heap.size w vb bs) (hLe : Lim w.heap.size w ve es) (hle : es.length ≤ 137438953472)
    (h0 : S 0 os) (h1 : S 1 bs)
    (HT : ∀ (W : World) (x y : Value) (xs ys : List Nat) (k l : Nat), Below w.heap.size w W → Lim W.heap.size W x xs → Lim W.heap.size W y ys → S k xs → S l ys → Calls Tryz.prog 98 #[x, y, .pointer (some ⟨b, 0, none⟩)] W (Has (S (k + l)) W)) :
    Calls Tryz.prog 97 #[vo, vb, ve, .func (.func 98) #[] #[.pointer (some ⟨b, 0, none⟩)]] w (Has (S (val es)) w) := by
  have hnb := nbits_len hLe.ok
  have hS0 : S (val es / 2 ^ nbits (val es)) os := by rw [half_top]; exact h0
  have HS0 := Lib.hid hS0
  have HK := Lib.hid HT
  have H1 := Lib.hid h1
  clear HT hS0 h0 h1
  obtain ⟨A, ca, rfl, _⟩ := id hLo
  obtain ⟨B, cb, rfl, _⟩ := id hLb
  obtain ⟨C, cc, rfl, _⟩ := id hLe
  go_enter Tryz.func97, Tryz.ntmps97
  go_wp2_with fail
  refine (bits_any w.heap.size _ es w hLe (by omega)).mono ?_
  rintro e W1 ⟨rfl, rfl⟩
  generalize hN : nbits (val es) = N at *
  go_wp2
  go_loopw [9, 10] (fun p i wr => ∃ (c : Nat) (rs : List Nat), c ≤ N ∧ i = .int .i64 ((c : Int) - 1) ∧ Lim wr.heap.size wr p rs ∧ S (val es / 2 ^ c) rs ∧ Below w.heap.size w wr)
    (fun _ i _ => (intOf i + 1).toNat)
  case atStart => exact ⟨N, os, Nat.le_refl _, rfl, hLo, HS0.out, Below.refl _ _⟩
  case round =>
    obtain ⟨c, rs, hc, rfl, hLp, hS, hB⟩ := hrel
    have HS := Lib.hid hS
    clear hS
    rcases Nat.eq_zero_or_pos c with rfl | hp
    · have hd : decide (0 ≤ (((0 : Nat) : Int) - 1)) = false := by simp
      go_wp2
      go_ret
      refine ⟨_, rs, rfl, hLp, ?_, hB⟩
      have := HS.out
      rwa [half_zero] at this
    · obtain ⟨j, rfl⟩ : ∃ j, c = j + 1 := ⟨c - 1, by omega⟩
      rw [show (((j + 1 : Nat) : Int) - 1) = (j : Int) by omega]
      have hd : decide (0 ≤ (j : Int)) = true := by simp
      have K1 := HK.out wr _ _ rs rs _ _ hB hLp hLp HS.out HS.out
      have HK1 := Lib.hid K1
      clear K1
      obtain ⟨P, cp, rfl, _⟩ := id hLp
      go_wp2_with fail
      refine HK1.out.mono ?_
      rintro e W2 ⟨r2, rs2, rfl, L2, S2, hB2⟩
      have hB12 := hB.trans (hB2.mono hB.size)
      have HS2 := Lib.hid S2
      clear S2 HK1
      have hst := half_step (val es) j
      have K2 := bit_any W2.heap.size (.slice C es.length cc) es j W2 ((hLe.next hB).next hB2) (by omega)
      rcases (show bitN (val es) j = 0 ∨ bitN (val es) j = 1 by have := bitN_le (val es) j; omega) with hbit | hbit
      · rw [hbit] at K2 hst
        have HST := Lib.hid hst
        have HK2 := Lib.hid K2
        clear K2 hst
        go_wp2_with fail
        refine HK2.out.mono ?_
        rintro e W3 ⟨rfl, rfl⟩
        go_wp2_with fail
        go_roundw
        case rel =>
          refine ⟨j, rs2, by omega, by go_num, L2, ?_, hB12⟩
          have e := HST.out
          rw [Nat.add_zero] at e
          rw [e]
          exact HS2.out
        case measure => simp [intOf]
      · rw [hbit] at K2 hst
        have HST := Lib.hid hst
        have HK2 := Lib.hid K2
        have K3 := HK.out W2 r2 _ rs2 bs _ _ hB12 L2 ((hLb.next hB).next hB2) HS2.out H1.out
        have HK3 := Lib.hid K3
        clear K2 hst K3
        obtain ⟨P2, cp2, rfl, _⟩ := id L2
        go_wp2_with fail
        refine HK2.out.mono ?_
        rintro e W3 ⟨rfl, rfl⟩
        go_wp2_with fail
        refine HK3.out.mono ?_
        rintro e W4 ⟨r4, rs4, rfl, L4, S4, hB4⟩
        have HS4 := Lib.hid S4
        clear S4
        go_wp2_with fail
        go_roundw
        case rel =>
          refine ⟨j, rs4, by omega, by go_num, L4, ?_, hB12.trans (hB4.mono hB12.size)⟩
          rw [HST.out]
          exact HS4.out
        case measure => simp [intOf]

end Go.Proofs.YtjnefacdindamaaGreatDoor


/- modulus.Power's closure (for even numbers): what a product leaves. Conditions: the slices read as limbs; the box that it captures holds the number; lengths below 2^37. -/
namespace Go.Proofs.YtjnefacdindamaaGreatDoor
open Go.RowKit Go.Shelf Num
set_option linter.unusedVariables false
set_option maxRecDepth 100000

set_option maxRecDepth 100000 in
set_option maxHeartbeats 4000000 in
theorem closure_any (b : Nat) (z x y : Value) (zs xs ys : List Nat) (w : World) (hbox : w.cell? ⟨b, 0, none⟩ = some z) (hLz : Lim w.heap.size w z zs) (hLx : Lim w.heap.size w x xs) (hLy : Lim w.heap.size w y ys)
    (hlz : zs.length ≤ 68719476736) (hlx : xs.length ≤ 68719476736) (hly : ys.length ≤ 68719476736) (h0 : val zs ≠ 0) :
    Calls Tryz.prog 98 #[x, y, .pointer (some ⟨b, 0, none⟩)] w (Gives (val xs * val ys % val zs) w) := by
  have hbl := lt_of_cell hbox
  have hll : (limbs (val xs * val ys)).length ≤ xs.length + ys.length := by
    refine limbs_len ?_
    rw [Nat.pow_add]
    exact Nat.mul_lt_mul'' (val_lt hLx.ok) (val_lt hLy.ok)
  have hbox2 : w.drew.cell? ⟨b, 0, none⟩ = some z := hbox
  have K1 := mul_any x y xs ys w.drew hLx hLy (by omega) (by omega)
  have HK1 := Lib.hid K1
  clear K1
  obtain ⟨A, ca, rfl, _⟩ := id hLx
  obtain ⟨B, cb, rfl, _⟩ := id hLy
  obtain ⟨C, cc, rfl, _⟩ := id hLz
  have K2 : ∀ (W : World) (r : Value), Below w.drew.heap.size w.drew W → Lim W.heap.size W r (limbs (val xs * val ys)) → Calls Tryz.prog 89 #[r, .slice C zs.length cc] W (GivesOk (val xs * val ys % val zs) W) := by
    intro W r hB hL
    have h := rest_any r (.slice C zs.length cc) _ zs W hL ((show Lim w.drew.heap.size w.drew _ _ from hLz).next hB) (by omega) (by omega) h0
    rwa [val_limbs] at h
  have HK2 := Lib.hid K2
  clear K2
  go_enter Tryz.func98, Tryz.ntmps98
  go_wp2_with fail
  go_region_with (first
    | (go_at_call 89; refine (HK2.out _ _ hB1 L1).mono ?_; rintro e W2 ⟨r2, rfl, L2, hB2⟩)
    | (go_at_call 99; refine HK1.out.mono ?_; rintro e W1 ⟨r1, rfl, L1, hB1⟩; have hbox3 : W1.cell? ⟨b, 0, none⟩ = some (.slice C zs.length cc) := (hB1.cell (p := ⟨b, 0, none⟩) hbl).trans hbox2))
  all_goals
    go_wp2
    go_ret
    exact ⟨r2, rfl, L2, ((Below.refl _ w).drew).trans (hB1.trans (hB2.mono hB1.size))⟩

end Go.Proofs.YtjnefacdindamaaGreatDoor
