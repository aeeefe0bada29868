/- lodgelaw05.GroupSquares answers true, whatever comes in, and leaves memory below as it was. No condition. -/
import Derived.Test.YtmbdidompjgaaaaAwake5
import Derived.Test.YtmbdidompjgaaaaOctS
import Derived.Test.YtmbdidompjgaaaaClosesW
import Derived.Test.YtmbdidompjgaaaaRefMul
import Derived.Deep.RegionHeld3
namespace Go.Proofs.Ytmbdidompjgaaaa
open Go.RowKit Go.Shelf Num
set_option linter.unusedVariables false

theorem el_sq {g : Int} {p k : Nat} (hP : P g = p) (hf : Fermats p) (h4 : p % 4 = 3) (hpl : p ≤ 99999) (h2 : 2 ≤ k) (hk : k < p) : isEl g (byts k) = sqd p p k := by
  rw [Bool.eq_iff_iff, isEl_byts (nbyt_400 (by omega)), ← euler hf h4 (by omega) hk, hP]
  exact ⟨fun h => h.2.2, fun h => ⟨by omega, hk, h⟩⟩
theorem elN_sq {p k : Nat} (hf : Fermats p) (h4 : p % 4 = 3) (h2 : 2 ≤ k) (hk : k < p) : elN p k = sqd p p k := by
  rw [Bool.eq_iff_iff, ← euler hf h4 (by omega) hk]
  unfold elN
  simp [h2, hk]
theorem cnt_two (p : Nat) : cnt (elN p) 0 2 = 0 := by simp [cnt, elN]
theorem cnt_more {p k : Nat} {b : Bool} (h : elN p k = b) : cnt (elN p) 0 (k + 1) = cnt (elN p) 0 k + b.toNat := by
  show cnt (elN p) 0 k + (elN p (0 + k)).toNat = _
  rw [Nat.zero_add, h]
theorem refTo_drew (x : Nat) (w : World) (hx : x ≤ 99999) : Calls Try.prog 17 #[.slice (some ⟨w.heap.size, 0, none⟩) 1 1] (w.alloc (.cells #[.int .u64 (x : Int)] 28)).drew fun e W' => ∃ T : ByteArray, e = .returned (.string T) ∧ (T.data.toList = byts x ∧ T.size ≤ 8) ∧ Below w.heap.size w W' :=
  (refTo_one x w.drew hx).mono fun e W' ⟨T, h1, h2, h3⟩ => ⟨T, h1, h2, ⟨h3.os, h3.tape, h3.output, h3.size, h3.block⟩⟩
/-- Block g is a row of n bools. -/
def RowO (w : World) (g n : Nat) (f : Nat → Bool) : Prop := w.rowIs g 4 n (fun j => .bool (f j))
theorem infoO : (Try.prog.info? 4).map (fun i => (i.zero, i.size, i.bytes)) = some (some (.bool false), 1, 1) := by kernel_rfl
theorem rowO_made (w : World) (p n : Nat) : RowO (w.alloc (.cells (madeCells #[.bool false] n) 4)) w.heap.size n (sqd p 1) := (World.rowIs_made w _ n _).congr fun j _ => by rw [sqd_one]
theorem RowO.next {w : World} {g n p k : Nat} (h : RowO w g n (sqd p k)) (hk : 1 ≤ k) : RowO (w.setCell ⟨g, k * k % p, none⟩ (.bool true)) g n (sqd p (k + 1)) := by
  refine (World.rowIs.set h (k * k % p) _).congr fun j _ => ?_
  rw [sqd_next p k hk]
  split <;> rfl
theorem RowO.below {w w' : World} {g n B : Nat} {f : Nat → Bool} (h : RowO w g n f) (hb : Below B w w') (hg : g < B) : RowO w' g n f := World.rowIs.of_block h (hb.block g hg)

theorem ferm0 : Fermats 23 := fermats_all (by omega)
theorem qq0 : limbs (P 0 / 2) = [11] := by rw [P_0]; exact limbs_1 (by omega) (by omega)
set_option maxRecDepth 100000 in
set_option maxHeartbeats 8000000 in
theorem squares0 (w : World) : Calls Try.prog 5 #[.bool false] w fun e w' => e = .returned (.bool true) ∧ Below w.heap.size w w' := by
  obtain ⟨i0, hi, hz0, hz1, hz2⟩ := info_parts infoO
  go_enter Try.func5, Try.ntmps5
  have B := Below.refl w.heap.size w
  go_wp2_with fail
  refine (prime_any 0 _).mono ?_
  rintro e W1 ⟨va, rfl, La, hb⟩
  rw [pp0] at La
  replace B := B.trans (hb.mono B.size)
  clear hb
  obtain ⟨b1, o1, c1, rfl, _, hbw, h1⟩ := id (La.at_ (by simp))
  have g1 : W1.cell? ⟨b1, o1, none⟩ = some (.int .u64 23) := h1 0 (by simp)
  clear h1
  go_wp2_with (refine wpList_make_row _ rfl _ _ 29 rfl 4 i0 (.bool false) Try.underlying29 hi hz0 hz1 rfl .u64 .u64 23 rfl rfl (by rw [hz2]; omega) (by omega) ?_)
  have hR0 := rowO_made W1 23 23
  have hB0 : Below W1.heap.size W1 (W1.alloc (.cells (madeCells #[.bool false] 23) 4)) := (Below.refl _ W1).alloc (Nat.le_refl _) _
  generalize W1.alloc (.cells (madeCells #[.bool false] 23) 4) = w1 at hR0 hB0 ⊢
  go_loopw [6] (fun i wr => ∃ k : Nat, 1 ≤ k ∧ k ≤ 23 ∧ i = .int .u64 (k : Int) ∧ RowO wr W1.heap.size 23 (sqd 23 k) ∧ Below W1.heap.size W1 wr)
    (fun i _ => 23 - (intOf i).toNat)
  case atStart => exact ⟨1, by omega, by omega, rfl, hR0, hB0⟩
  case round =>
    obtain ⟨k, hk1, hk, rfl, hR, hB⟩ := hrel
    have g2 := (hB.cell (p := ⟨b1, o1, none⟩) hbw).trans g1
    by_cases hlt : k < 23
    · have hd : decide ((k : Int) < 23) = true := by simpa using (by omega : (k : Int) < 23)
      have hml : k * k ≤ 23 * 23 := Nat.mul_le_mul hk hk
      have hm : ((k : Nat) : Int) * ((k : Nat) : Int) = ((k * k : Nat) : Int) := (Int.natCast_mul k k).symm
      have hmz : ((k * k : Nat) : Int) % 23 = ((k * k % 23 : Nat) : Int) := mod_nat _ _
      have hzp := Nat.mod_lt (k * k) (show 23 > 0 by omega)
      have hcs := World.rowIs.cell hR hzp
      have hfz := World.rowIs.frozen hR (k * k % 23)
      have hR1 := hR.next hk1
      have hB1 : Below W1.heap.size W1 (wr.setCell ⟨W1.heap.size, k * k % 23, none⟩ (.bool true)) := hB.setCell (p := ⟨W1.heap.size, k * k % 23, none⟩) (Nat.le_refl _) _
      generalize k * k % 23 = z at *
      generalize k * k = m at *
      go_wp2_with fail
      go_roundw
      case rel => exact ⟨k + 1, by omega, by omega, by go_num, hR1, hB1⟩
      case measure => simp [intOf]; omega
    · obtain rfl : k = 23 := by omega
      clear hk hlt hk1 hR0 hB0
      rw [show ((23 : Nat) : Int) = 23 from rfl]
      go_wp2_with fail
      go_loopw [7, 8] (fun n i wr => ∃ k c : Nat, 2 ≤ k ∧ k ≤ 23 ∧ i = .int .u64 (k : Int) ∧ n = .int .u64 (c : Int) ∧ c = 1 + cnt (elN 23) 0 k ∧ RowO wr W1.heap.size 23 (sqd 23 23) ∧ Below W1.heap.size W1 wr)
        (fun _ i _ => 23 - (intOf i).toNat)
      case atStart => exact ⟨2, 1, by omega, by omega, rfl, rfl, by rw [cnt_two], hR, hB⟩
      case round =>
        clear g2 hR hB
        obtain ⟨k, c, hk1, hk, rfl, rfl, hc, hR, hB⟩ := hrel
        have hcl := cnt_le (elN 23) 0 k
        have hcc : c ≤ 3000 := by omega
        have HC := Lib.hid hc
        clear hc hcl
        have g2 := (hB.cell (p := ⟨b1, o1, none⟩) hbw).trans g1
        by_cases hlt : k < 23
        · have hd : decide ((k : Int) < 23) = true := by simpa using (by omega : (k : Int) < 23)
          have hE := el_sq P_0 ferm0 (by omega) (by omega) hk1 hlt
          have hN := elN_sq ferm0 (by omega) hk1 hlt
          have hcs := World.rowIs.cell hR hlt
          have hG : W1.heap.size < wr.heap.size := World.rowIs.lt hR
          have hx0 : wr.drew.cell? ⟨W1.heap.size, k, none⟩ = some (.bool (sqd 23 23 k)) := hcs
          have hi0 : (0 : Int) ≤ (k : Int) := by omega
          have hi1 : (k : Int) < 23 := by omega
          have ha0 : (wr.alloc (.cells #[.int .u64 (k : Int)] 28)).drew.cell? ⟨W1.heap.size, k, none⟩ = some (.bool (sqd 23 23 k)) := (((Below.refl wr.heap.size wr).alloc (Nat.le_refl _) _).drew.cell (p := ⟨W1.heap.size, k, none⟩) hG).trans hcs
          cases hs : sqd 23 23 k
          · rw [hs] at hE hN hcs hx0 ha0
            have HE := Lib.hid hE
            have HN := Lib.hid hN
            clear hE hN hs
            go_wp2_with fail
            go_region_held3 (fun w' => w'.cell? ⟨W1.heap.size, k, none⟩ = some (.bool false)) (first | exact hx0 | exact ha0 | exact hy0 | exact hz0)
              (first
                | (go_at_call 17; (refine (refTo_drew k wr (by omega)).mono ?_); rintro e W4 ⟨T, rfl, ⟨hT1, hT2⟩, hb4⟩; have hG4 : W1.heap.size < W4.heap.size := Nat.lt_of_lt_of_le hG hb4.size; have hy0 := (hb4.cell (p := ⟨W1.heap.size, k, none⟩) hG).trans hx0)
                | (go_at_call 15; (refine (element_is 0 T false W4 (by omega) (by rw [hT1]; exact HE.out)).mono ?_); rintro e W5 ⟨rfl, hb5⟩; have hz0 := (hb5.cell (p := ⟨W1.heap.size, k, none⟩) hG4).trans hy0))
            have hb6 := hb4.trans (hb5.mono hb4.size)
            have hR6 := hR.below hb6 hG
            have hB6 := hB.trans (hb6.mono hB.size)
            clear hb4 hb5 hb6 hy0 hx0 ha0 hcs hT1 hT2 HE g2 hR hB hG hG4 hi0
            go_wp2_with fail
            go_roundw
            case rel => exact ⟨k + 1, c + 0, by omega, by omega, by go_num, by first | rfl | go_num, by rw [cnt_more HN.out, HC.out]; rfl, hR6, hB6⟩
            case measure => simp [intOf]; omega
          · rw [hs] at hE hN hcs hx0 ha0
            have HE := Lib.hid hE
            have HN := Lib.hid hN
            clear hE hN hs
            go_wp2_with fail
            go_region_held3 (fun w' => w'.cell? ⟨W1.heap.size, k, none⟩ = some (.bool true)) (first | exact hx0 | exact ha0 | exact hy0 | exact hz0)
              (first
                | (go_at_call 17; (refine (refTo_drew k wr (by omega)).mono ?_); rintro e W4 ⟨T, rfl, ⟨hT1, hT2⟩, hb4⟩; have hG4 : W1.heap.size < W4.heap.size := Nat.lt_of_lt_of_le hG hb4.size; have hy0 := (hb4.cell (p := ⟨W1.heap.size, k, none⟩) hG).trans hx0)
                | (go_at_call 15; (refine (element_is 0 T true W4 (by omega) (by rw [hT1]; exact HE.out)).mono ?_); rintro e W5 ⟨rfl, hb5⟩; have hz0 := (hb5.cell (p := ⟨W1.heap.size, k, none⟩) hG4).trans hy0))
            have hb6 := hb4.trans (hb5.mono hb4.size)
            have hR6 := hR.below hb6 hG
            have hB6 := hB.trans (hb6.mono hB.size)
            clear hb4 hb5 hb6 hy0 hx0 ha0 hcs hT1 hT2 HE g2 hR hB hG hG4 hi0
            go_wp2_with fail
            go_roundw
            case rel => exact ⟨k + 1, c + 1, by omega, by omega, by go_num, by first | rfl | go_num, by rw [cnt_more HN.out, HC.out]; rfl, hR6, hB6⟩
            case measure => simp [intOf]; omega
        · obtain rfl : k = 23 := by omega
          have hc := HC.out
          rw [cnt_23] at hc
          obtain rfl : c = 11 := by omega
          clear HC hc hk hk1 hlt hR g1 hcc
          replace La := La.next hB
          replace B := B.trans (hB.mono B.size)
          clear hB
          go_wp2_with fail
          refine (order_any 0 _).mono ?_
          rintro e W7 ⟨vq, rfl, Lq, hb⟩
          rw [qq0] at Lq
          replace La := La.next hb
          replace B := B.trans (hb.mono B.size)
          clear hb
          go_wp2_with fail
          refine (awake5_any _).mono ?_
          rintro e W8 ⟨rfl, hb⟩
          replace La := La.next hb
          replace Lq := Lq.next hb
          replace B := B.trans (hb.mono B.size)
          clear hb
          obtain ⟨b2, o2, c2, rfl, _, hbw2, h2⟩ := id (Lq.at_ (by simp))
          have g3 : W8.cell? ⟨b2, o2, none⟩ = some (.int .u64 11) := h2 0 (by simp)
          clear h2
          go_wp2_with fail
          refine (refMul_any _ _ [11] [2] _ (Lq.alloc _) (lim_lit1 W8 2 (under (by omega))) (by simp) (by simp)).mono ?_
          rintro e W9 ⟨vm, rfl, Lm, hb⟩
          rw [val_1n, val_1n, limbs_1 (by omega) (by omega)] at Lm
          replace La := ((La).alloc _).next hb
          replace Lq := ((Lq).alloc _).next hb
          replace B := (al1 B _).trans (hb.mono (al1 B _).size)
          clear hb
          clear Lq g3
          go_wp2_with fail
          refine (refAdd_any _ _ [11 * 2] [1] _ (Lm.alloc _) (lim_lit1 W9 1 (under (by omega))) (by simp) (by simp)).mono ?_
          rintro e W10 ⟨vs, rfl, Ls, hb⟩
          rw [val_1n, val_1n, limbs_1 (by omega) (by omega)] at Ls
          replace La := ((La).alloc _).next hb
          replace Lm := ((Lm).alloc _).next hb
          replace B := (al1 B _).trans (hb.mono (al1 B _).size)
          clear hb
          go_wp2_with fail
          refine (same_any _ _ [11 * 2 + 1] [23] _ Ls La (by simp) (by simp) rfl).mono ?_
          rintro e W11 ⟨rfl, hb⟩
          replace La := La.next hb
          replace Ls := Ls.next hb
          replace B := B.trans (hb.mono B.size)
          clear hb
          go_wp2
          go_ret
          exact ⟨rfl, B⟩

theorem ferm1 : Fermats 2039 := fermats_all (by omega)
theorem qq1 : limbs (P 1 / 2) = [1019] := by rw [P_1]; exact limbs_1 (by omega) (by omega)
set_option maxRecDepth 100000 in
set_option maxHeartbeats 8000000 in
theorem squares1 (w : World) : Calls Try.prog 5 #[.bool true] w fun e w' => e = .returned (.bool true) ∧ Below w.heap.size w w' := by
  obtain ⟨i0, hi, hz0, hz1, hz2⟩ := info_parts infoO
  go_enter Try.func5, Try.ntmps5
  have B := Below.refl w.heap.size w
  go_wp2_with fail
  refine (prime_any 1 _).mono ?_
  rintro e W1 ⟨va, rfl, La, hb⟩
  rw [pp1] at La
  replace B := B.trans (hb.mono B.size)
  clear hb
  obtain ⟨b1, o1, c1, rfl, _, hbw, h1⟩ := id (La.at_ (by simp))
  have g1 : W1.cell? ⟨b1, o1, none⟩ = some (.int .u64 2039) := h1 0 (by simp)
  clear h1
  go_wp2_with (refine wpList_make_row _ rfl _ _ 29 rfl 4 i0 (.bool false) Try.underlying29 hi hz0 hz1 rfl .u64 .u64 2039 rfl rfl (by rw [hz2]; omega) (by omega) ?_)
  have hR0 := rowO_made W1 2039 2039
  have hB0 : Below W1.heap.size W1 (W1.alloc (.cells (madeCells #[.bool false] 2039) 4)) := (Below.refl _ W1).alloc (Nat.le_refl _) _
  generalize W1.alloc (.cells (madeCells #[.bool false] 2039) 4) = w1 at hR0 hB0 ⊢
  go_loopw [6] (fun i wr => ∃ k : Nat, 1 ≤ k ∧ k ≤ 2039 ∧ i = .int .u64 (k : Int) ∧ RowO wr W1.heap.size 2039 (sqd 2039 k) ∧ Below W1.heap.size W1 wr)
    (fun i _ => 2039 - (intOf i).toNat)
  case atStart => exact ⟨1, by omega, by omega, rfl, hR0, hB0⟩
  case round =>
    obtain ⟨k, hk1, hk, rfl, hR, hB⟩ := hrel
    have g2 := (hB.cell (p := ⟨b1, o1, none⟩) hbw).trans g1
    by_cases hlt : k < 2039
    · have hd : decide ((k : Int) < 2039) = true := by simpa using (by omega : (k : Int) < 2039)
      have hml : k * k ≤ 2039 * 2039 := Nat.mul_le_mul hk hk
      have hm : ((k : Nat) : Int) * ((k : Nat) : Int) = ((k * k : Nat) : Int) := (Int.natCast_mul k k).symm
      have hmz : ((k * k : Nat) : Int) % 2039 = ((k * k % 2039 : Nat) : Int) := mod_nat _ _
      have hzp := Nat.mod_lt (k * k) (show 2039 > 0 by omega)
      have hcs := World.rowIs.cell hR hzp
      have hfz := World.rowIs.frozen hR (k * k % 2039)
      have hR1 := hR.next hk1
      have hB1 : Below W1.heap.size W1 (wr.setCell ⟨W1.heap.size, k * k % 2039, none⟩ (.bool true)) := hB.setCell (p := ⟨W1.heap.size, k * k % 2039, none⟩) (Nat.le_refl _) _
      generalize k * k % 2039 = z at *
      generalize k * k = m at *
      go_wp2_with fail
      go_roundw
      case rel => exact ⟨k + 1, by omega, by omega, by go_num, hR1, hB1⟩
      case measure => simp [intOf]; omega
    · obtain rfl : k = 2039 := by omega
      clear hk hlt hk1 hR0 hB0
      rw [show ((2039 : Nat) : Int) = 2039 from rfl]
      go_wp2_with fail
      go_loopw [7, 8] (fun n i wr => ∃ k c : Nat, 2 ≤ k ∧ k ≤ 2039 ∧ i = .int .u64 (k : Int) ∧ n = .int .u64 (c : Int) ∧ c = 1 + cnt (elN 2039) 0 k ∧ RowO wr W1.heap.size 2039 (sqd 2039 2039) ∧ Below W1.heap.size W1 wr)
        (fun _ i _ => 2039 - (intOf i).toNat)
      case atStart => exact ⟨2, 1, by omega, by omega, rfl, rfl, by rw [cnt_two], hR, hB⟩
      case round =>
        clear g2 hR hB
        obtain ⟨k, c, hk1, hk, rfl, rfl, hc, hR, hB⟩ := hrel
        have hcl := cnt_le (elN 2039) 0 k
        have hcc : c ≤ 3000 := by omega
        have HC := Lib.hid hc
        clear hc hcl
        have g2 := (hB.cell (p := ⟨b1, o1, none⟩) hbw).trans g1
        by_cases hlt : k < 2039
        · have hd : decide ((k : Int) < 2039) = true := by simpa using (by omega : (k : Int) < 2039)
          have hE := el_sq P_1 ferm1 (by omega) (by omega) hk1 hlt
          have hN := elN_sq ferm1 (by omega) hk1 hlt
          have hcs := World.rowIs.cell hR hlt
          have hG : W1.heap.size < wr.heap.size := World.rowIs.lt hR
          have hx0 : wr.drew.cell? ⟨W1.heap.size, k, none⟩ = some (.bool (sqd 2039 2039 k)) := hcs
          have hi0 : (0 : Int) ≤ (k : Int) := by omega
          have hi1 : (k : Int) < 2039 := by omega
          have ha0 : (wr.alloc (.cells #[.int .u64 (k : Int)] 28)).drew.cell? ⟨W1.heap.size, k, none⟩ = some (.bool (sqd 2039 2039 k)) := (((Below.refl wr.heap.size wr).alloc (Nat.le_refl _) _).drew.cell (p := ⟨W1.heap.size, k, none⟩) hG).trans hcs
          cases hs : sqd 2039 2039 k
          · rw [hs] at hE hN hcs hx0 ha0
            have HE := Lib.hid hE
            have HN := Lib.hid hN
            clear hE hN hs
            go_wp2_with fail
            go_region_held3 (fun w' => w'.cell? ⟨W1.heap.size, k, none⟩ = some (.bool false)) (first | exact hx0 | exact ha0 | exact hy0 | exact hz0)
              (first
                | (go_at_call 17; (refine (refTo_drew k wr (by omega)).mono ?_); rintro e W4 ⟨T, rfl, ⟨hT1, hT2⟩, hb4⟩; have hG4 : W1.heap.size < W4.heap.size := Nat.lt_of_lt_of_le hG hb4.size; have hy0 := (hb4.cell (p := ⟨W1.heap.size, k, none⟩) hG).trans hx0)
                | (go_at_call 15; (refine (element_is 1 T false W4 (by omega) (by rw [hT1]; exact HE.out)).mono ?_); rintro e W5 ⟨rfl, hb5⟩; have hz0 := (hb5.cell (p := ⟨W1.heap.size, k, none⟩) hG4).trans hy0))
            have hb6 := hb4.trans (hb5.mono hb4.size)
            have hR6 := hR.below hb6 hG
            have hB6 := hB.trans (hb6.mono hB.size)
            clear hb4 hb5 hb6 hy0 hx0 ha0 hcs hT1 hT2 HE g2 hR hB hG hG4 hi0
            go_wp2_with fail
            go_roundw
            case rel => exact ⟨k + 1, c + 0, by omega, by omega, by go_num, by first | rfl | go_num, by rw [cnt_more HN.out, HC.out]; rfl, hR6, hB6⟩
            case measure => simp [intOf]; omega
          · rw [hs] at hE hN hcs hx0 ha0
            have HE := Lib.hid hE
            have HN := Lib.hid hN
            clear hE hN hs
            go_wp2_with fail
            go_region_held3 (fun w' => w'.cell? ⟨W1.heap.size, k, none⟩ = some (.bool true)) (first | exact hx0 | exact ha0 | exact hy0 | exact hz0)
              (first
                | (go_at_call 17; (refine (refTo_drew k wr (by omega)).mono ?_); rintro e W4 ⟨T, rfl, ⟨hT1, hT2⟩, hb4⟩; have hG4 : W1.heap.size < W4.heap.size := Nat.lt_of_lt_of_le hG hb4.size; have hy0 := (hb4.cell (p := ⟨W1.heap.size, k, none⟩) hG).trans hx0)
                | (go_at_call 15; (refine (element_is 1 T true W4 (by omega) (by rw [hT1]; exact HE.out)).mono ?_); rintro e W5 ⟨rfl, hb5⟩; have hz0 := (hb5.cell (p := ⟨W1.heap.size, k, none⟩) hG4).trans hy0))
            have hb6 := hb4.trans (hb5.mono hb4.size)
            have hR6 := hR.below hb6 hG
            have hB6 := hB.trans (hb6.mono hB.size)
            clear hb4 hb5 hb6 hy0 hx0 ha0 hcs hT1 hT2 HE g2 hR hB hG hG4 hi0
            go_wp2_with fail
            go_roundw
            case rel => exact ⟨k + 1, c + 1, by omega, by omega, by go_num, by first | rfl | go_num, by rw [cnt_more HN.out, HC.out]; rfl, hR6, hB6⟩
            case measure => simp [intOf]; omega
        · obtain rfl : k = 2039 := by omega
          have hc := HC.out
          rw [cnt_2039] at hc
          obtain rfl : c = 1019 := by omega
          clear HC hc hk hk1 hlt hR g1 hcc
          replace La := La.next hB
          replace B := B.trans (hB.mono B.size)
          clear hB
          go_wp2_with fail
          refine (order_any 1 _).mono ?_
          rintro e W7 ⟨vq, rfl, Lq, hb⟩
          rw [qq1] at Lq
          replace La := La.next hb
          replace B := B.trans (hb.mono B.size)
          clear hb
          go_wp2_with fail
          refine (awake5_any _).mono ?_
          rintro e W8 ⟨rfl, hb⟩
          replace La := La.next hb
          replace Lq := Lq.next hb
          replace B := B.trans (hb.mono B.size)
          clear hb
          obtain ⟨b2, o2, c2, rfl, _, hbw2, h2⟩ := id (Lq.at_ (by simp))
          have g3 : W8.cell? ⟨b2, o2, none⟩ = some (.int .u64 1019) := h2 0 (by simp)
          clear h2
          go_wp2_with fail
          refine (refMul_any _ _ [1019] [2] _ (Lq.alloc _) (lim_lit1 W8 2 (under (by omega))) (by simp) (by simp)).mono ?_
          rintro e W9 ⟨vm, rfl, Lm, hb⟩
          rw [val_1n, val_1n, limbs_1 (by omega) (by omega)] at Lm
          replace La := ((La).alloc _).next hb
          replace Lq := ((Lq).alloc _).next hb
          replace B := (al1 B _).trans (hb.mono (al1 B _).size)
          clear hb
          clear Lq g3
          go_wp2_with fail
          refine (refAdd_any _ _ [1019 * 2] [1] _ (Lm.alloc _) (lim_lit1 W9 1 (under (by omega))) (by simp) (by simp)).mono ?_
          rintro e W10 ⟨vs, rfl, Ls, hb⟩
          rw [val_1n, val_1n, limbs_1 (by omega) (by omega)] at Ls
          replace La := ((La).alloc _).next hb
          replace Lm := ((Lm).alloc _).next hb
          replace B := (al1 B _).trans (hb.mono (al1 B _).size)
          clear hb
          go_wp2_with fail
          refine (same_any _ _ [1019 * 2 + 1] [2039] _ Ls La (by simp) (by simp) rfl).mono ?_
          rintro e W11 ⟨rfl, hb⟩
          replace La := La.next hb
          replace Ls := Ls.next hb
          replace B := B.trans (hb.mono B.size)
          clear hb
          go_wp2
          go_ret
          exact ⟨rfl, B⟩

theorem groupSquares_walk (sm : Bool) (w : World) :
    Calls Try.prog 5 #[.bool sm] w fun e w' => e = .returned (.bool true) ∧ Below w.heap.size w w' := by
  cases sm
  · exact squares0 w
  · exact squares1 w

end Go.Proofs.Ytmbdidompjgaaaa
