/- lodgelaw05.GroupCloses answers true, whatever comes in, and leaves memory below as it was. No condition. -/
import Derived.Test.YtmbdidompjgaaaaAwake5
import Derived.Test.YtmbdidompjgaaaaOctS
namespace Go.Proofs.Ytmbdidompjgaaaa
open Go.RowKit Go.Shelf Num
set_option linter.unusedVariables false

theorem text_of (l : List UInt8) : ∃ T : ByteArray, (⟨l.toArray⟩ : ByteArray) = T ∧ T.data.toList = l ∧ T.size = l.length ∧ T.toList = l := ⟨_, rfl, rfl, by rw [size_data], by rw [Lib.toList_data]⟩
/-- The document's bytes of one limb, under a name. -/
theorem refTo_one (x : Nat) (w : World) (hx : x ≤ 99999) : Calls Try.prog 17 #[.slice (some ⟨w.heap.size, 0, none⟩) 1 1] (w.alloc (.cells #[.int .u64 (x : Int)] 28)) fun e W' => ∃ T : ByteArray, e = .returned (.string T) ∧ (T.data.toList = byts x ∧ T.size ≤ 8) ∧ Below w.heap.size w W' := by
  refine (refTo_any _ [x] _ (lim_lit1 w x (under hx)) (by simp)).mono ?_
  rintro e W ⟨rfl, hb⟩
  rw [val_1n]
  obtain ⟨T, hT, h1, h2, _⟩ := text_of (byts x)
  refine ⟨T, by rw [hT], ⟨h1, ?_⟩, (al1 (Below.refl _ w) _).trans (hb.mono (al1 (Below.refl _ w) _).size)⟩
  rw [h2, byts_length, nbyt_le]
  have : (99999 : Nat) < 256 ^ 8 := by decide
  omega
theorem nbyt_400 {x : Nat} (hx : x ≤ 99999) : nbyt x ≤ 400 := Nat.le_trans (nbyt_le.2 (Nat.lt_of_le_of_lt hx (by decide)) : nbyt x ≤ 3) (by omega)
theorem el_true {g : Int} {x : Nat} (hx : x ≤ 99999) (h : 1 < x ∧ x < P g ∧ pm x (P g / 2) (P g) = 1) : isEl g (byts x) = true := (isEl_byts (nbyt_400 hx)).2 h
theorem el_of {g : Int} {x : Nat} (hx : x ≤ 99999) (h : isEl g (byts x) = true) : 1 < x ∧ x < P g ∧ pm x (P g / 2) (P g) = 1 := (isEl_byts (nbyt_400 hx)).1 h

theorem u16_nat {a : Int} (h : (Lit.int .u16 a).wf = true) : ∃ n : Nat, a = ((n : Nat) : Int) ∧ n < 65536 := by
  have h1 : IntKind.u16.min ≤ a ∧ a ≤ IntKind.u16.max := by simpa [Lit.wf] using h
  have h2 : IntKind.u16.min = 0 := rfl
  have h3 : IntKind.u16.max = 65535 := rfl
  rw [h2, h3] at h1
  exact ⟨a.toNat, by omega, by omega⟩
theorem mod_nat (n p : Nat) : ((n : Nat) : Int) % ((p : Nat) : Int) = (((n % p : Nat)) : Int) := rfl
theorem ne_one {n : Nat} (h : n ≠ 1) : (((n : Nat) : Int) == 1) = false := by
  have : ((n : Nat) : Int) ≠ 1 := by omega
  simpa using this
theorem prod_le {x y p : Nat} (hx : x < p) (hy : y < p) : x * y ≤ p * p := Nat.mul_le_mul (by omega) (by omega)
theorem pp0 : limbs (P 0) = [23] := by rw [P_0]; exact limbs_1 (by omega) (by omega)
set_option maxRecDepth 100000 in
set_option maxHeartbeats 8000000 in
theorem closes0_a (na nb x y : Nat) (w : World) (ha : na < 65536) (hb : nb < 65536) (hx : ((na : Nat) : Int) % 23 = ((x : Nat) : Int)) (hy : ((nb : Nat) : Int) % 23 = ((y : Nat) : Int)) (hxp : x < 23) (hyp : y < 23) (hE : isEl 0 (byts x) = false) :
    Calls Try.prog 6 #[.bool false, .int .u16 ((na : Nat) : Int), .int .u16 ((nb : Nat) : Int)] w fun e w' => e = .returned (.bool true) ∧ Below w.heap.size w w' := by
  go_enter Try.func6, Try.ntmps6
  have B := Below.refl w.heap.size w
  go_wp2_with fail
  refine (prime_any 0 _).mono ?_
  rintro e W1 ⟨va, rfl, La, hb⟩
  rw [pp0] at La
  replace B := B.trans (hb.mono B.size)
  clear hb
  obtain ⟨b1, o1, c1, rfl, _, hbw, h1⟩ := La.at_ (by simp)
  have g1 : W1.cell? ⟨b1, o1, none⟩ = some (.int .u64 23) := h1 0 (by simp)
  clear h1 La
  go_wp2_with fail
  go_region
  rw [hx, hy]
  replace B := B.drew
  have g2 : (W1.drew).cell? ⟨b1, o1, none⟩ = some (.int .u64 23) := g1
  have hbw2 : b1 < (W1.drew).heap.size := hbw
  clear g1 hx hy hbw
  generalize W1.drew = W2 at *
  go_wp2_with fail
  refine (refTo_one x _ (by omega)).mono ?_
  rintro e W3 ⟨T, rfl, ⟨T1, T2⟩, hb⟩
  replace B := B.trans (hb.mono B.size)
  replace g2 := (hb.cell (p := ⟨b1, o1, none⟩) hbw2).trans g2
  replace hbw2 := Nat.lt_of_lt_of_le hbw2 hb.size
  clear hb
  go_wp2_with fail
  refine (element_is 0 T false _ (by omega) (by rw [T1]; exact hE)).mono ?_
  rintro e W4 ⟨rfl, hb⟩
  replace B := B.trans (hb.mono B.size)
  replace g2 := (hb.cell (p := ⟨b1, o1, none⟩) hbw2).trans g2
  replace hbw2 := Nat.lt_of_lt_of_le hbw2 hb.size
  clear hb
  clear T1 T2
  go_wp2_with fail
  refine (awake5_any _).mono ?_
  rintro e W5 ⟨rfl, hb⟩
  replace B := B.trans (hb.mono B.size)
  clear hb
  go_wp2
  go_ret
  exact ⟨rfl, B⟩

set_option maxRecDepth 100000 in
set_option maxHeartbeats 8000000 in
theorem closes0_b (na nb x y : Nat) (w : World) (ha : na < 65536) (hb : nb < 65536) (hx : ((na : Nat) : Int) % 23 = ((x : Nat) : Int)) (hy : ((nb : Nat) : Int) % 23 = ((y : Nat) : Int)) (hxp : x < 23) (hyp : y < 23) (hE : isEl 0 (byts x) = true) (hF : isEl 0 (byts y) = false) :
    Calls Try.prog 6 #[.bool false, .int .u16 ((na : Nat) : Int), .int .u16 ((nb : Nat) : Int)] w fun e w' => e = .returned (.bool true) ∧ Below w.heap.size w w' := by
  go_enter Try.func6, Try.ntmps6
  have B := Below.refl w.heap.size w
  go_wp2_with fail
  refine (prime_any 0 _).mono ?_
  rintro e W1 ⟨va, rfl, La, hb⟩
  rw [pp0] at La
  replace B := B.trans (hb.mono B.size)
  clear hb
  obtain ⟨b1, o1, c1, rfl, _, hbw, h1⟩ := La.at_ (by simp)
  have g1 : W1.cell? ⟨b1, o1, none⟩ = some (.int .u64 23) := h1 0 (by simp)
  clear h1 La
  go_wp2_with fail
  go_region
  rw [hx, hy]
  replace B := B.drew
  have g2 : (W1.drew).cell? ⟨b1, o1, none⟩ = some (.int .u64 23) := g1
  have hbw2 : b1 < (W1.drew).heap.size := hbw
  clear g1 hx hy hbw
  generalize W1.drew = W2 at *
  go_wp2_with fail
  refine (refTo_one x _ (by omega)).mono ?_
  rintro e W3 ⟨T, rfl, ⟨T1, T2⟩, hb⟩
  replace B := B.trans (hb.mono B.size)
  replace g2 := (hb.cell (p := ⟨b1, o1, none⟩) hbw2).trans g2
  replace hbw2 := Nat.lt_of_lt_of_le hbw2 hb.size
  clear hb
  go_wp2_with fail
  refine (element_is 0 T true _ (by omega) (by rw [T1]; exact hE)).mono ?_
  rintro e W4 ⟨rfl, hb⟩
  replace B := B.trans (hb.mono B.size)
  replace g2 := (hb.cell (p := ⟨b1, o1, none⟩) hbw2).trans g2
  replace hbw2 := Nat.lt_of_lt_of_le hbw2 hb.size
  clear hb
  clear T1 T2
  go_wp2_with fail
  refine (refTo_one y _ (by omega)).mono ?_
  rintro e W5 ⟨S, rfl, ⟨S1, S2⟩, hb⟩
  replace B := B.trans (hb.mono B.size)
  replace g2 := (hb.cell (p := ⟨b1, o1, none⟩) hbw2).trans g2
  replace hbw2 := Nat.lt_of_lt_of_le hbw2 hb.size
  clear hb
  go_wp2_with fail
  refine (element_is 0 S false _ (by omega) (by rw [S1]; exact hF)).mono ?_
  rintro e W6 ⟨rfl, hb⟩
  replace B := B.trans (hb.mono B.size)
  replace g2 := (hb.cell (p := ⟨b1, o1, none⟩) hbw2).trans g2
  replace hbw2 := Nat.lt_of_lt_of_le hbw2 hb.size
  clear hb
  clear S1 S2
  go_wp2_with fail
  refine (awake5_any _).mono ?_
  rintro e W7 ⟨rfl, hb⟩
  replace B := B.trans (hb.mono B.size)
  clear hb
  go_wp2
  go_ret
  exact ⟨rfl, B⟩

set_option maxRecDepth 100000 in
set_option maxHeartbeats 8000000 in
theorem closes0_c0 (na nb x y : Nat) (w : World) (ha : na < 65536) (hb : nb < 65536) (hx : ((na : Nat) : Int) % 23 = ((x : Nat) : Int)) (hy : ((nb : Nat) : Int) % 23 = ((y : Nat) : Int)) (hxp : x < 23) (hyp : y < 23) (hE : isEl 0 (byts x) = true) (hF : isEl 0 (byts y) = true) (m m2 z z2 : Nat) (hm : ((x : Nat) : Int) * ((y : Nat) : Int) = ((m : Nat) : Int)) (hm2 : ((x : Nat) : Int) * ((x : Nat) : Int) = ((m2 : Nat) : Int)) (hml : m ≤ 9999999) (hml2 : m2 ≤ 9999999) (hmz : ((m : Nat) : Int) % 23 = ((z : Nat) : Int)) (hmz2 : ((m2 : Nat) : Int) % 23 = ((z2 : Nat) : Int)) (hzp : z < 23) (hzp2 : z2 < 23) (hz : (((z : Nat) : Int) == 1) = false) (hG : isEl 0 (byts z) = true) (hz2 : (((z2 : Nat) : Int) == 1) = false) (hH : isEl 0 (byts z2) = true) :
    Calls Try.prog 6 #[.bool false, .int .u16 ((na : Nat) : Int), .int .u16 ((nb : Nat) : Int)] w fun e w' => e = .returned (.bool true) ∧ Below w.heap.size w w' := by
  go_enter Try.func6, Try.ntmps6
  have B := Below.refl w.heap.size w
  go_wp2_with fail
  refine (prime_any 0 _).mono ?_
  rintro e W1 ⟨va, rfl, La, hb⟩
  rw [pp0] at La
  replace B := B.trans (hb.mono B.size)
  clear hb
  obtain ⟨b1, o1, c1, rfl, _, hbw, h1⟩ := La.at_ (by simp)
  have g1 : W1.cell? ⟨b1, o1, none⟩ = some (.int .u64 23) := h1 0 (by simp)
  clear h1 La
  go_wp2_with fail
  go_region
  rw [hx, hy]
  replace B := B.drew
  have g2 : (W1.drew).cell? ⟨b1, o1, none⟩ = some (.int .u64 23) := g1
  have hbw2 : b1 < (W1.drew).heap.size := hbw
  clear g1 hx hy hbw
  generalize W1.drew = W2 at *
  go_wp2_with fail
  refine (refTo_one x _ (by omega)).mono ?_
  rintro e W3 ⟨T, rfl, ⟨T1, T2⟩, hb⟩
  replace B := B.trans (hb.mono B.size)
  replace g2 := (hb.cell (p := ⟨b1, o1, none⟩) hbw2).trans g2
  replace hbw2 := Nat.lt_of_lt_of_le hbw2 hb.size
  clear hb
  go_wp2_with fail
  refine (element_is 0 T true _ (by omega) (by rw [T1]; exact hE)).mono ?_
  rintro e W4 ⟨rfl, hb⟩
  replace B := B.trans (hb.mono B.size)
  replace g2 := (hb.cell (p := ⟨b1, o1, none⟩) hbw2).trans g2
  replace hbw2 := Nat.lt_of_lt_of_le hbw2 hb.size
  clear hb
  clear T1 T2
  go_wp2_with fail
  refine (refTo_one y _ (by omega)).mono ?_
  rintro e W5 ⟨S, rfl, ⟨S1, S2⟩, hb⟩
  replace B := B.trans (hb.mono B.size)
  replace g2 := (hb.cell (p := ⟨b1, o1, none⟩) hbw2).trans g2
  replace hbw2 := Nat.lt_of_lt_of_le hbw2 hb.size
  clear hb
  go_wp2_with fail
  refine (element_is 0 S true _ (by omega) (by rw [S1]; exact hF)).mono ?_
  rintro e W6 ⟨rfl, hb⟩
  replace B := B.trans (hb.mono B.size)
  replace g2 := (hb.cell (p := ⟨b1, o1, none⟩) hbw2).trans g2
  replace hbw2 := Nat.lt_of_lt_of_le hbw2 hb.size
  clear hb
  clear S1 S2
  go_wp2_with fail
  refine (awake5_any _).mono ?_
  rintro e W7 ⟨rfl, hb⟩
  replace B := B.trans (hb.mono B.size)
  clear hb
  go_wp2_with fail
  refine (refTo_one z _ (by omega)).mono ?_
  rintro e W8 ⟨U, rfl, ⟨U1, U2⟩, hb⟩
  replace B := B.trans (hb.mono B.size)
  clear hb
  go_wp2_with fail
  refine (element_is 0 U true _ (by omega) (by rw [U1]; exact hG)).mono ?_
  rintro e W9 ⟨rfl, hb⟩
  replace B := B.trans (hb.mono B.size)
  clear hb
  clear U1 U2
  go_wp2_with fail
  refine (refTo_one z2 _ (by omega)).mono ?_
  rintro e W10 ⟨V, rfl, ⟨V1, V2⟩, hb⟩
  replace B := B.trans (hb.mono B.size)
  clear hb
  go_wp2_with fail
  refine (element_is 0 V true _ (by omega) (by rw [V1]; exact hH)).mono ?_
  rintro e W11 ⟨rfl, hb⟩
  replace B := B.trans (hb.mono B.size)
  clear hb
  clear V1 V2
  go_wp2
  go_ret
  exact ⟨rfl, B⟩

set_option maxRecDepth 100000 in
set_option maxHeartbeats 8000000 in
theorem closes0_c1 (na nb x y : Nat) (w : World) (ha : na < 65536) (hb : nb < 65536) (hx : ((na : Nat) : Int) % 23 = ((x : Nat) : Int)) (hy : ((nb : Nat) : Int) % 23 = ((y : Nat) : Int)) (hxp : x < 23) (hyp : y < 23) (hE : isEl 0 (byts x) = true) (hF : isEl 0 (byts y) = true) (m m2 z z2 : Nat) (hm : ((x : Nat) : Int) * ((y : Nat) : Int) = ((m : Nat) : Int)) (hm2 : ((x : Nat) : Int) * ((x : Nat) : Int) = ((m2 : Nat) : Int)) (hml : m ≤ 9999999) (hml2 : m2 ≤ 9999999) (hmz : ((m : Nat) : Int) % 23 = ((z : Nat) : Int)) (hmz2 : ((m2 : Nat) : Int) % 23 = ((z2 : Nat) : Int)) (hzp : z < 23) (hzp2 : z2 < 23) (hz : ((z : Nat) : Int) = 1) (hz2 : (((z2 : Nat) : Int) == 1) = false) (hH : isEl 0 (byts z2) = true) :
    Calls Try.prog 6 #[.bool false, .int .u16 ((na : Nat) : Int), .int .u16 ((nb : Nat) : Int)] w fun e w' => e = .returned (.bool true) ∧ Below w.heap.size w w' := by
  go_enter Try.func6, Try.ntmps6
  have B := Below.refl w.heap.size w
  go_wp2_with fail
  refine (prime_any 0 _).mono ?_
  rintro e W1 ⟨va, rfl, La, hb⟩
  rw [pp0] at La
  replace B := B.trans (hb.mono B.size)
  clear hb
  obtain ⟨b1, o1, c1, rfl, _, hbw, h1⟩ := La.at_ (by simp)
  have g1 : W1.cell? ⟨b1, o1, none⟩ = some (.int .u64 23) := h1 0 (by simp)
  clear h1 La
  go_wp2_with fail
  go_region
  rw [hx, hy]
  replace B := B.drew
  have g2 : (W1.drew).cell? ⟨b1, o1, none⟩ = some (.int .u64 23) := g1
  have hbw2 : b1 < (W1.drew).heap.size := hbw
  clear g1 hx hy hbw
  generalize W1.drew = W2 at *
  go_wp2_with fail
  refine (refTo_one x _ (by omega)).mono ?_
  rintro e W3 ⟨T, rfl, ⟨T1, T2⟩, hb⟩
  replace B := B.trans (hb.mono B.size)
  replace g2 := (hb.cell (p := ⟨b1, o1, none⟩) hbw2).trans g2
  replace hbw2 := Nat.lt_of_lt_of_le hbw2 hb.size
  clear hb
  go_wp2_with fail
  refine (element_is 0 T true _ (by omega) (by rw [T1]; exact hE)).mono ?_
  rintro e W4 ⟨rfl, hb⟩
  replace B := B.trans (hb.mono B.size)
  replace g2 := (hb.cell (p := ⟨b1, o1, none⟩) hbw2).trans g2
  replace hbw2 := Nat.lt_of_lt_of_le hbw2 hb.size
  clear hb
  clear T1 T2
  go_wp2_with fail
  refine (refTo_one y _ (by omega)).mono ?_
  rintro e W5 ⟨S, rfl, ⟨S1, S2⟩, hb⟩
  replace B := B.trans (hb.mono B.size)
  replace g2 := (hb.cell (p := ⟨b1, o1, none⟩) hbw2).trans g2
  replace hbw2 := Nat.lt_of_lt_of_le hbw2 hb.size
  clear hb
  go_wp2_with fail
  refine (element_is 0 S true _ (by omega) (by rw [S1]; exact hF)).mono ?_
  rintro e W6 ⟨rfl, hb⟩
  replace B := B.trans (hb.mono B.size)
  replace g2 := (hb.cell (p := ⟨b1, o1, none⟩) hbw2).trans g2
  replace hbw2 := Nat.lt_of_lt_of_le hbw2 hb.size
  clear hb
  clear S1 S2
  go_wp2_with fail
  refine (awake5_any _).mono ?_
  rintro e W7 ⟨rfl, hb⟩
  replace B := B.trans (hb.mono B.size)
  clear hb
  go_wp2_with fail
  refine (refTo_one z2 _ (by omega)).mono ?_
  rintro e W8 ⟨V, rfl, ⟨V1, V2⟩, hb⟩
  replace B := B.trans (hb.mono B.size)
  clear hb
  go_wp2_with fail
  refine (element_is 0 V true _ (by omega) (by rw [V1]; exact hH)).mono ?_
  rintro e W9 ⟨rfl, hb⟩
  replace B := B.trans (hb.mono B.size)
  clear hb
  clear V1 V2
  go_wp2
  go_ret
  exact ⟨rfl, B⟩

set_option maxRecDepth 100000 in
set_option maxHeartbeats 8000000 in
theorem closes0_c2 (na nb x y : Nat) (w : World) (ha : na < 65536) (hb : nb < 65536) (hx : ((na : Nat) : Int) % 23 = ((x : Nat) : Int)) (hy : ((nb : Nat) : Int) % 23 = ((y : Nat) : Int)) (hxp : x < 23) (hyp : y < 23) (hE : isEl 0 (byts x) = true) (hF : isEl 0 (byts y) = true) (m m2 z z2 : Nat) (hm : ((x : Nat) : Int) * ((y : Nat) : Int) = ((m : Nat) : Int)) (hm2 : ((x : Nat) : Int) * ((x : Nat) : Int) = ((m2 : Nat) : Int)) (hml : m ≤ 9999999) (hml2 : m2 ≤ 9999999) (hmz : ((m : Nat) : Int) % 23 = ((z : Nat) : Int)) (hmz2 : ((m2 : Nat) : Int) % 23 = ((z2 : Nat) : Int)) (hzp : z < 23) (hzp2 : z2 < 23) (hz : (((z : Nat) : Int) == 1) = false) (hG : isEl 0 (byts z) = true) (hz2 : ((z2 : Nat) : Int) = 1) :
    Calls Try.prog 6 #[.bool false, .int .u16 ((na : Nat) : Int), .int .u16 ((nb : Nat) : Int)] w fun e w' => e = .returned (.bool true) ∧ Below w.heap.size w w' := by
  go_enter Try.func6, Try.ntmps6
  have B := Below.refl w.heap.size w
  go_wp2_with fail
  refine (prime_any 0 _).mono ?_
  rintro e W1 ⟨va, rfl, La, hb⟩
  rw [pp0] at La
  replace B := B.trans (hb.mono B.size)
  clear hb
  obtain ⟨b1, o1, c1, rfl, _, hbw, h1⟩ := La.at_ (by simp)
  have g1 : W1.cell? ⟨b1, o1, none⟩ = some (.int .u64 23) := h1 0 (by simp)
  clear h1 La
  go_wp2_with fail
  go_region
  rw [hx, hy]
  replace B := B.drew
  have g2 : (W1.drew).cell? ⟨b1, o1, none⟩ = some (.int .u64 23) := g1
  have hbw2 : b1 < (W1.drew).heap.size := hbw
  clear g1 hx hy hbw
  generalize W1.drew = W2 at *
  go_wp2_with fail
  refine (refTo_one x _ (by omega)).mono ?_
  rintro e W3 ⟨T, rfl, ⟨T1, T2⟩, hb⟩
  replace B := B.trans (hb.mono B.size)
  replace g2 := (hb.cell (p := ⟨b1, o1, none⟩) hbw2).trans g2
  replace hbw2 := Nat.lt_of_lt_of_le hbw2 hb.size
  clear hb
  go_wp2_with fail
  refine (element_is 0 T true _ (by omega) (by rw [T1]; exact hE)).mono ?_
  rintro e W4 ⟨rfl, hb⟩
  replace B := B.trans (hb.mono B.size)
  replace g2 := (hb.cell (p := ⟨b1, o1, none⟩) hbw2).trans g2
  replace hbw2 := Nat.lt_of_lt_of_le hbw2 hb.size
  clear hb
  clear T1 T2
  go_wp2_with fail
  refine (refTo_one y _ (by omega)).mono ?_
  rintro e W5 ⟨S, rfl, ⟨S1, S2⟩, hb⟩
  replace B := B.trans (hb.mono B.size)
  replace g2 := (hb.cell (p := ⟨b1, o1, none⟩) hbw2).trans g2
  replace hbw2 := Nat.lt_of_lt_of_le hbw2 hb.size
  clear hb
  go_wp2_with fail
  refine (element_is 0 S true _ (by omega) (by rw [S1]; exact hF)).mono ?_
  rintro e W6 ⟨rfl, hb⟩
  replace B := B.trans (hb.mono B.size)
  replace g2 := (hb.cell (p := ⟨b1, o1, none⟩) hbw2).trans g2
  replace hbw2 := Nat.lt_of_lt_of_le hbw2 hb.size
  clear hb
  clear S1 S2
  go_wp2_with fail
  refine (awake5_any _).mono ?_
  rintro e W7 ⟨rfl, hb⟩
  replace B := B.trans (hb.mono B.size)
  clear hb
  go_wp2_with fail
  refine (refTo_one z _ (by omega)).mono ?_
  rintro e W8 ⟨U, rfl, ⟨U1, U2⟩, hb⟩
  replace B := B.trans (hb.mono B.size)
  clear hb
  go_wp2_with fail
  refine (element_is 0 U true _ (by omega) (by rw [U1]; exact hG)).mono ?_
  rintro e W9 ⟨rfl, hb⟩
  replace B := B.trans (hb.mono B.size)
  clear hb
  clear U1 U2
  go_wp2
  go_ret
  exact ⟨rfl, B⟩

set_option maxRecDepth 100000 in
set_option maxHeartbeats 8000000 in
theorem closes0_c3 (na nb x y : Nat) (w : World) (ha : na < 65536) (hb : nb < 65536) (hx : ((na : Nat) : Int) % 23 = ((x : Nat) : Int)) (hy : ((nb : Nat) : Int) % 23 = ((y : Nat) : Int)) (hxp : x < 23) (hyp : y < 23) (hE : isEl 0 (byts x) = true) (hF : isEl 0 (byts y) = true) (m m2 z z2 : Nat) (hm : ((x : Nat) : Int) * ((y : Nat) : Int) = ((m : Nat) : Int)) (hm2 : ((x : Nat) : Int) * ((x : Nat) : Int) = ((m2 : Nat) : Int)) (hml : m ≤ 9999999) (hml2 : m2 ≤ 9999999) (hmz : ((m : Nat) : Int) % 23 = ((z : Nat) : Int)) (hmz2 : ((m2 : Nat) : Int) % 23 = ((z2 : Nat) : Int)) (hzp : z < 23) (hzp2 : z2 < 23) (hz : ((z : Nat) : Int) = 1) (hz2 : ((z2 : Nat) : Int) = 1) :
    Calls Try.prog 6 #[.bool false, .int .u16 ((na : Nat) : Int), .int .u16 ((nb : Nat) : Int)] w fun e w' => e = .returned (.bool true) ∧ Below w.heap.size w w' := by
  go_enter Try.func6, Try.ntmps6
  have B := Below.refl w.heap.size w
  go_wp2_with fail
  refine (prime_any 0 _).mono ?_
  rintro e W1 ⟨va, rfl, La, hb⟩
  rw [pp0] at La
  replace B := B.trans (hb.mono B.size)
  clear hb
  obtain ⟨b1, o1, c1, rfl, _, hbw, h1⟩ := La.at_ (by simp)
  have g1 : W1.cell? ⟨b1, o1, none⟩ = some (.int .u64 23) := h1 0 (by simp)
  clear h1 La
  go_wp2_with fail
  go_region
  rw [hx, hy]
  replace B := B.drew
  have g2 : (W1.drew).cell? ⟨b1, o1, none⟩ = some (.int .u64 23) := g1
  have hbw2 : b1 < (W1.drew).heap.size := hbw
  clear g1 hx hy hbw
  generalize W1.drew = W2 at *
  go_wp2_with fail
  refine (refTo_one x _ (by omega)).mono ?_
  rintro e W3 ⟨T, rfl, ⟨T1, T2⟩, hb⟩
  replace B := B.trans (hb.mono B.size)
  replace g2 := (hb.cell (p := ⟨b1, o1, none⟩) hbw2).trans g2
  replace hbw2 := Nat.lt_of_lt_of_le hbw2 hb.size
  clear hb
  go_wp2_with fail
  refine (element_is 0 T true _ (by omega) (by rw [T1]; exact hE)).mono ?_
  rintro e W4 ⟨rfl, hb⟩
  replace B := B.trans (hb.mono B.size)
  replace g2 := (hb.cell (p := ⟨b1, o1, none⟩) hbw2).trans g2
  replace hbw2 := Nat.lt_of_lt_of_le hbw2 hb.size
  clear hb
  clear T1 T2
  go_wp2_with fail
  refine (refTo_one y _ (by omega)).mono ?_
  rintro e W5 ⟨S, rfl, ⟨S1, S2⟩, hb⟩
  replace B := B.trans (hb.mono B.size)
  replace g2 := (hb.cell (p := ⟨b1, o1, none⟩) hbw2).trans g2
  replace hbw2 := Nat.lt_of_lt_of_le hbw2 hb.size
  clear hb
  go_wp2_with fail
  refine (element_is 0 S true _ (by omega) (by rw [S1]; exact hF)).mono ?_
  rintro e W6 ⟨rfl, hb⟩
  replace B := B.trans (hb.mono B.size)
  replace g2 := (hb.cell (p := ⟨b1, o1, none⟩) hbw2).trans g2
  replace hbw2 := Nat.lt_of_lt_of_le hbw2 hb.size
  clear hb
  clear S1 S2
  go_wp2_with fail
  refine (awake5_any _).mono ?_
  rintro e W7 ⟨rfl, hb⟩
  replace B := B.trans (hb.mono B.size)
  clear hb
  go_wp2
  go_ret
  exact ⟨rfl, B⟩

theorem closes0_all (a b : Int) (w : World) (ha : (Lit.int .u16 a).wf = true) (hb : (Lit.int .u16 b).wf = true) :
    Calls Try.prog 6 #[.bool false, .int .u16 a, .int .u16 b] w fun e w' => e = .returned (.bool true) ∧ Below w.heap.size w w' := by
  obtain ⟨na, rfl, hna⟩ := u16_nat ha
  obtain ⟨nb, rfl, hnb⟩ := u16_nat hb
  have hx := mod_nat na 23
  have hy := mod_nat nb 23
  have hxp := Nat.mod_lt na (show 23 > 0 by omega)
  have hyp := Nat.mod_lt nb (show 23 > 0 by omega)
  generalize na % 23 = x at *
  generalize nb % 23 = y at *
  cases hE : isEl 0 (byts x) with
  | false => exact closes0_a na nb x y w hna hnb hx hy hxp hyp hE
  | true =>
    cases hF : isEl 0 (byts y) with
    | false => exact closes0_b na nb x y w hna hnb hx hy hxp hyp hE hF
    | true =>
      have kx := el_of (by omega) hE
      have ky := el_of (by omega) hF
      have hzp := Nat.mod_lt (x * y) (show 23 > 0 by omega)
      have hzp2 := Nat.mod_lt (x * x) (show 23 > 0 by omega)
      have hml := prod_le hxp hyp
      have hml2 := prod_le hxp hxp
      have k1 : x * y % 23 ≠ 1 → isEl 0 (byts (x * y % 23)) = true := fun h => el_true (by omega) (by have k := el_times kx ky (by rw [P_0]; exact h); rwa [P_0] at k ⊢)
      have k2 : x * x % 23 ≠ 1 → isEl 0 (byts (x * x % 23)) = true := fun h => el_true (by omega) (by have k := el_times kx kx (by rw [P_0]; exact h); rwa [P_0] at k ⊢)
      by_cases e1 : x * y % 23 = 1
      · by_cases e2 : x * x % 23 = 1
        · exact closes0_c3 na nb x y w hna hnb hx hy hxp hyp hE hF (x * y) (x * x) _ _ (Int.natCast_mul x y).symm (Int.natCast_mul x x).symm (by omega) (by omega) (mod_nat _ _) (mod_nat _ _) hzp hzp2 (by rw [e1]; rfl) (by rw [e2]; rfl)
        · exact closes0_c1 na nb x y w hna hnb hx hy hxp hyp hE hF (x * y) (x * x) _ _ (Int.natCast_mul x y).symm (Int.natCast_mul x x).symm (by omega) (by omega) (mod_nat _ _) (mod_nat _ _) hzp hzp2 (by rw [e1]; rfl) (ne_one e2) (k2 e2)
      · by_cases e2 : x * x % 23 = 1
        · exact closes0_c2 na nb x y w hna hnb hx hy hxp hyp hE hF (x * y) (x * x) _ _ (Int.natCast_mul x y).symm (Int.natCast_mul x x).symm (by omega) (by omega) (mod_nat _ _) (mod_nat _ _) hzp hzp2 (ne_one e1) (k1 e1) (by rw [e2]; rfl)
        · exact closes0_c0 na nb x y w hna hnb hx hy hxp hyp hE hF (x * y) (x * x) _ _ (Int.natCast_mul x y).symm (Int.natCast_mul x x).symm (by omega) (by omega) (mod_nat _ _) (mod_nat _ _) hzp hzp2 (ne_one e1) (k1 e1) (ne_one e2) (k2 e2)

theorem pp1 : limbs (P 1) = [2039] := by rw [P_1]; exact limbs_1 (by omega) (by omega)
set_option maxRecDepth 100000 in
set_option maxHeartbeats 8000000 in
theorem closes1_a (na nb x y : Nat) (w : World) (ha : na < 65536) (hb : nb < 65536) (hx : ((na : Nat) : Int) % 2039 = ((x : Nat) : Int)) (hy : ((nb : Nat) : Int) % 2039 = ((y : Nat) : Int)) (hxp : x < 2039) (hyp : y < 2039) (hE : isEl 1 (byts x) = false) :
    Calls Try.prog 6 #[.bool true, .int .u16 ((na : Nat) : Int), .int .u16 ((nb : Nat) : Int)] w fun e w' => e = .returned (.bool true) ∧ Below w.heap.size w w' := by
  go_enter Try.func6, Try.ntmps6
  have B := Below.refl w.heap.size w
  go_wp2_with fail
  refine (prime_any 1 _).mono ?_
  rintro e W1 ⟨va, rfl, La, hb⟩
  rw [pp1] at La
  replace B := B.trans (hb.mono B.size)
  clear hb
  obtain ⟨b1, o1, c1, rfl, _, hbw, h1⟩ := La.at_ (by simp)
  have g1 : W1.cell? ⟨b1, o1, none⟩ = some (.int .u64 2039) := h1 0 (by simp)
  clear h1 La
  go_wp2_with fail
  go_region
  rw [hx, hy]
  replace B := B.drew
  have g2 : (W1.drew).cell? ⟨b1, o1, none⟩ = some (.int .u64 2039) := g1
  have hbw2 : b1 < (W1.drew).heap.size := hbw
  clear g1 hx hy hbw
  generalize W1.drew = W2 at *
  go_wp2_with fail
  refine (refTo_one x _ (by omega)).mono ?_
  rintro e W3 ⟨T, rfl, ⟨T1, T2⟩, hb⟩
  replace B := B.trans (hb.mono B.size)
  replace g2 := (hb.cell (p := ⟨b1, o1, none⟩) hbw2).trans g2
  replace hbw2 := Nat.lt_of_lt_of_le hbw2 hb.size
  clear hb
  go_wp2_with fail
  refine (element_is 1 T false _ (by omega) (by rw [T1]; exact hE)).mono ?_
  rintro e W4 ⟨rfl, hb⟩
  replace B := B.trans (hb.mono B.size)
  replace g2 := (hb.cell (p := ⟨b1, o1, none⟩) hbw2).trans g2
  replace hbw2 := Nat.lt_of_lt_of_le hbw2 hb.size
  clear hb
  clear T1 T2
  go_wp2_with fail
  refine (awake5_any _).mono ?_
  rintro e W5 ⟨rfl, hb⟩
  replace B := B.trans (hb.mono B.size)
  clear hb
  go_wp2
  go_ret
  exact ⟨rfl, B⟩

set_option maxRecDepth 100000 in
set_option maxHeartbeats 8000000 in
theorem closes1_b (na nb x y : Nat) (w : World) (ha : na < 65536) (hb : nb < 65536) (hx : ((na : Nat) : Int) % 2039 = ((x : Nat) : Int)) (hy : ((nb : Nat) : Int) % 2039 = ((y : Nat) : Int)) (hxp : x < 2039) (hyp : y < 2039) (hE : isEl 1 (byts x) = true) (hF : isEl 1 (byts y) = false) :
    Calls Try.prog 6 #[.bool true, .int .u16 ((na : Nat) : Int), .int .u16 ((nb : Nat) : Int)] w fun e w' => e = .returned (.bool true) ∧ Below w.heap.size w w' := by
  go_enter Try.func6, Try.ntmps6
  have B := Below.refl w.heap.size w
  go_wp2_with fail
  refine (prime_any 1 _).mono ?_
  rintro e W1 ⟨va, rfl, La, hb⟩
  rw [pp1] at La
  replace B := B.trans (hb.mono B.size)
  clear hb
  obtain ⟨b1, o1, c1, rfl, _, hbw, h1⟩ := La.at_ (by simp)
  have g1 : W1.cell? ⟨b1, o1, none⟩ = some (.int .u64 2039) := h1 0 (by simp)
  clear h1 La
  go_wp2_with fail
  go_region
  rw [hx, hy]
  replace B := B.drew
  have g2 : (W1.drew).cell? ⟨b1, o1, none⟩ = some (.int .u64 2039) := g1
  have hbw2 : b1 < (W1.drew).heap.size := hbw
  clear g1 hx hy hbw
  generalize W1.drew = W2 at *
  go_wp2_with fail
  refine (refTo_one x _ (by omega)).mono ?_
  rintro e W3 ⟨T, rfl, ⟨T1, T2⟩, hb⟩
  replace B := B.trans (hb.mono B.size)
  replace g2 := (hb.cell (p := ⟨b1, o1, none⟩) hbw2).trans g2
  replace hbw2 := Nat.lt_of_lt_of_le hbw2 hb.size
  clear hb
  go_wp2_with fail
  refine (element_is 1 T true _ (by omega) (by rw [T1]; exact hE)).mono ?_
  rintro e W4 ⟨rfl, hb⟩
  replace B := B.trans (hb.mono B.size)
  replace g2 := (hb.cell (p := ⟨b1, o1, none⟩) hbw2).trans g2
  replace hbw2 := Nat.lt_of_lt_of_le hbw2 hb.size
  clear hb
  clear T1 T2
  go_wp2_with fail
  refine (refTo_one y _ (by omega)).mono ?_
  rintro e W5 ⟨S, rfl, ⟨S1, S2⟩, hb⟩
  replace B := B.trans (hb.mono B.size)
  replace g2 := (hb.cell (p := ⟨b1, o1, none⟩) hbw2).trans g2
  replace hbw2 := Nat.lt_of_lt_of_le hbw2 hb.size
  clear hb
  go_wp2_with fail
  refine (element_is 1 S false _ (by omega) (by rw [S1]; exact hF)).mono ?_
  rintro e W6 ⟨rfl, hb⟩
  replace B := B.trans (hb.mono B.size)
  replace g2 := (hb.cell (p := ⟨b1, o1, none⟩) hbw2).trans g2
  replace hbw2 := Nat.lt_of_lt_of_le hbw2 hb.size
  clear hb
  clear S1 S2
  go_wp2_with fail
  refine (awake5_any _).mono ?_
  rintro e W7 ⟨rfl, hb⟩
  replace B := B.trans (hb.mono B.size)
  clear hb
  go_wp2
  go_ret
  exact ⟨rfl, B⟩

set_option maxRecDepth 100000 in
set_option maxHeartbeats 8000000 in
theorem closes1_c0 (na nb x y : Nat) (w : World) (ha : na < 65536) (hb : nb < 65536) (hx : ((na : Nat) : Int) % 2039 = ((x : Nat) : Int)) (hy : ((nb : Nat) : Int) % 2039 = ((y : Nat) : Int)) (hxp : x < 2039) (hyp : y < 2039) (hE : isEl 1 (byts x) = true) (hF : isEl 1 (byts y) = true) (m m2 z z2 : Nat) (hm : ((x : Nat) : Int) * ((y : Nat) : Int) = ((m : Nat) : Int)) (hm2 : ((x : Nat) : Int) * ((x : Nat) : Int) = ((m2 : Nat) : Int)) (hml : m ≤ 9999999) (hml2 : m2 ≤ 9999999) (hmz : ((m : Nat) : Int) % 2039 = ((z : Nat) : Int)) (hmz2 : ((m2 : Nat) : Int) % 2039 = ((z2 : Nat) : Int)) (hzp : z < 2039) (hzp2 : z2 < 2039) (hz : (((z : Nat) : Int) == 1) = false) (hG : isEl 1 (byts z) = true) (hz2 : (((z2 : Nat) : Int) == 1) = false) (hH : isEl 1 (byts z2) = true) :
    Calls Try.prog 6 #[.bool true, .int .u16 ((na : Nat) : Int), .int .u16 ((nb : Nat) : Int)] w fun e w' => e = .returned (.bool true) ∧ Below w.heap.size w w' := by
  go_enter Try.func6, Try.ntmps6
  have B := Below.refl w.heap.size w
  go_wp2_with fail
  refine (prime_any 1 _).mono ?_
  rintro e W1 ⟨va, rfl, La, hb⟩
  rw [pp1] at La
  replace B := B.trans (hb.mono B.size)
  clear hb
  obtain ⟨b1, o1, c1, rfl, _, hbw, h1⟩ := La.at_ (by simp)
  have g1 : W1.cell? ⟨b1, o1, none⟩ = some (.int .u64 2039) := h1 0 (by simp)
  clear h1 La
  go_wp2_with fail
  go_region
  rw [hx, hy]
  replace B := B.drew
  have g2 : (W1.drew).cell? ⟨b1, o1, none⟩ = some (.int .u64 2039) := g1
  have hbw2 : b1 < (W1.drew).heap.size := hbw
  clear g1 hx hy hbw
  generalize W1.drew = W2 at *
  go_wp2_with fail
  refine (refTo_one x _ (by omega)).mono ?_
  rintro e W3 ⟨T, rfl, ⟨T1, T2⟩, hb⟩
  replace B := B.trans (hb.mono B.size)
  replace g2 := (hb.cell (p := ⟨b1, o1, none⟩) hbw2).trans g2
  replace hbw2 := Nat.lt_of_lt_of_le hbw2 hb.size
  clear hb
  go_wp2_with fail
  refine (element_is 1 T true _ (by omega) (by rw [T1]; exact hE)).mono ?_
  rintro e W4 ⟨rfl, hb⟩
  replace B := B.trans (hb.mono B.size)
  replace g2 := (hb.cell (p := ⟨b1, o1, none⟩) hbw2).trans g2
  replace hbw2 := Nat.lt_of_lt_of_le hbw2 hb.size
  clear hb
  clear T1 T2
  go_wp2_with fail
  refine (refTo_one y _ (by omega)).mono ?_
  rintro e W5 ⟨S, rfl, ⟨S1, S2⟩, hb⟩
  replace B := B.trans (hb.mono B.size)
  replace g2 := (hb.cell (p := ⟨b1, o1, none⟩) hbw2).trans g2
  replace hbw2 := Nat.lt_of_lt_of_le hbw2 hb.size
  clear hb
  go_wp2_with fail
  refine (element_is 1 S true _ (by omega) (by rw [S1]; exact hF)).mono ?_
  rintro e W6 ⟨rfl, hb⟩
  replace B := B.trans (hb.mono B.size)
  replace g2 := (hb.cell (p := ⟨b1, o1, none⟩) hbw2).trans g2
  replace hbw2 := Nat.lt_of_lt_of_le hbw2 hb.size
  clear hb
  clear S1 S2
  go_wp2_with fail
  refine (awake5_any _).mono ?_
  rintro e W7 ⟨rfl, hb⟩
  replace B := B.trans (hb.mono B.size)
  clear hb
  go_wp2_with fail
  refine (refTo_one z _ (by omega)).mono ?_
  rintro e W8 ⟨U, rfl, ⟨U1, U2⟩, hb⟩
  replace B := B.trans (hb.mono B.size)
  clear hb
  go_wp2_with fail
  refine (element_is 1 U true _ (by omega) (by rw [U1]; exact hG)).mono ?_
  rintro e W9 ⟨rfl, hb⟩
  replace B := B.trans (hb.mono B.size)
  clear hb
  clear U1 U2
  go_wp2_with fail
  refine (refTo_one z2 _ (by omega)).mono ?_
  rintro e W10 ⟨V, rfl, ⟨V1, V2⟩, hb⟩
  replace B := B.trans (hb.mono B.size)
  clear hb
  go_wp2_with fail
  refine (element_is 1 V true _ (by omega) (by rw [V1]; exact hH)).mono ?_
  rintro e W11 ⟨rfl, hb⟩
  replace B := B.trans (hb.mono B.size)
  clear hb
  clear V1 V2
  go_wp2
  go_ret
  exact ⟨rfl, B⟩

set_option maxRecDepth 100000 in
set_option maxHeartbeats 8000000 in
theorem closes1_c1 (na nb x y : Nat) (w : World) (ha : na < 65536) (hb : nb < 65536) (hx : ((na : Nat) : Int) % 2039 = ((x : Nat) : Int)) (hy : ((nb : Nat) : Int) % 2039 = ((y : Nat) : Int)) (hxp : x < 2039) (hyp : y < 2039) (hE : isEl 1 (byts x) = true) (hF : isEl 1 (byts y) = true) (m m2 z z2 : Nat) (hm : ((x : Nat) : Int) * ((y : Nat) : Int) = ((m : Nat) : Int)) (hm2 : ((x : Nat) : Int) * ((x : Nat) : Int) = ((m2 : Nat) : Int)) (hml : m ≤ 9999999) (hml2 : m2 ≤ 9999999) (hmz : ((m : Nat) : Int) % 2039 = ((z : Nat) : Int)) (hmz2 : ((m2 : Nat) : Int) % 2039 = ((z2 : Nat) : Int)) (hzp : z < 2039) (hzp2 : z2 < 2039) (hz : ((z : Nat) : Int) = 1) (hz2 : (((z2 : Nat) : Int) == 1) = false) (hH : isEl 1 (byts z2) = true) :
    Calls Try.prog 6 #[.bool true, .int .u16 ((na : Nat) : Int), .int .u16 ((nb : Nat) : Int)] w fun e w' => e = .returned (.bool true) ∧ Below w.heap.size w w' := by
  go_enter Try.func6, Try.ntmps6
  have B := Below.refl w.heap.size w
  go_wp2_with fail
  refine (prime_any 1 _).mono ?_
  rintro e W1 ⟨va, rfl, La, hb⟩
  rw [pp1] at La
  replace B := B.trans (hb.mono B.size)
  clear hb
  obtain ⟨b1, o1, c1, rfl, _, hbw, h1⟩ := La.at_ (by simp)
  have g1 : W1.cell? ⟨b1, o1, none⟩ = some (.int .u64 2039) := h1 0 (by simp)
  clear h1 La
  go_wp2_with fail
  go_region
  rw [hx, hy]
  replace B := B.drew
  have g2 : (W1.drew).cell? ⟨b1, o1, none⟩ = some (.int .u64 2039) := g1
  have hbw2 : b1 < (W1.drew).heap.size := hbw
  clear g1 hx hy hbw
  generalize W1.drew = W2 at *
  go_wp2_with fail
  refine (refTo_one x _ (by omega)).mono ?_
  rintro e W3 ⟨T, rfl, ⟨T1, T2⟩, hb⟩
  replace B := B.trans (hb.mono B.size)
  replace g2 := (hb.cell (p := ⟨b1, o1, none⟩) hbw2).trans g2
  replace hbw2 := Nat.lt_of_lt_of_le hbw2 hb.size
  clear hb
  go_wp2_with fail
  refine (element_is 1 T true _ (by omega) (by rw [T1]; exact hE)).mono ?_
  rintro e W4 ⟨rfl, hb⟩
  replace B := B.trans (hb.mono B.size)
  replace g2 := (hb.cell (p := ⟨b1, o1, none⟩) hbw2).trans g2
  replace hbw2 := Nat.lt_of_lt_of_le hbw2 hb.size
  clear hb
  clear T1 T2
  go_wp2_with fail
  refine (refTo_one y _ (by omega)).mono ?_
  rintro e W5 ⟨S, rfl, ⟨S1, S2⟩, hb⟩
  replace B := B.trans (hb.mono B.size)
  replace g2 := (hb.cell (p := ⟨b1, o1, none⟩) hbw2).trans g2
  replace hbw2 := Nat.lt_of_lt_of_le hbw2 hb.size
  clear hb
  go_wp2_with fail
  refine (element_is 1 S true _ (by omega) (by rw [S1]; exact hF)).mono ?_
  rintro e W6 ⟨rfl, hb⟩
  replace B := B.trans (hb.mono B.size)
  replace g2 := (hb.cell (p := ⟨b1, o1, none⟩) hbw2).trans g2
  replace hbw2 := Nat.lt_of_lt_of_le hbw2 hb.size
  clear hb
  clear S1 S2
  go_wp2_with fail
  refine (awake5_any _).mono ?_
  rintro e W7 ⟨rfl, hb⟩
  replace B := B.trans (hb.mono B.size)
  clear hb
  go_wp2_with fail
  refine (refTo_one z2 _ (by omega)).mono ?_
  rintro e W8 ⟨V, rfl, ⟨V1, V2⟩, hb⟩
  replace B := B.trans (hb.mono B.size)
  clear hb
  go_wp2_with fail
  refine (element_is 1 V true _ (by omega) (by rw [V1]; exact hH)).mono ?_
  rintro e W9 ⟨rfl, hb⟩
  replace B := B.trans (hb.mono B.size)
  clear hb
  clear V1 V2
  go_wp2
  go_ret
  exact ⟨rfl, B⟩

set_option maxRecDepth 100000 in
set_option maxHeartbeats 8000000 in
theorem closes1_c2 (na nb x y : Nat) (w : World) (ha : na < 65536) (hb : nb < 65536) (hx : ((na : Nat) : Int) % 2039 = ((x : Nat) : Int)) (hy : ((nb : Nat) : Int) % 2039 = ((y : Nat) : Int)) (hxp : x < 2039) (hyp : y < 2039) (hE : isEl 1 (byts x) = true) (hF : isEl 1 (byts y) = true) (m m2 z z2 : Nat) (hm : ((x : Nat) : Int) * ((y : Nat) : Int) = ((m : Nat) : Int)) (hm2 : ((x : Nat) : Int) * ((x : Nat) : Int) = ((m2 : Nat) : Int)) (hml : m ≤ 9999999) (hml2 : m2 ≤ 9999999) (hmz : ((m : Nat) : Int) % 2039 = ((z : Nat) : Int)) (hmz2 : ((m2 : Nat) : Int) % 2039 = ((z2 : Nat) : Int)) (hzp : z < 2039) (hzp2 : z2 < 2039) (hz : (((z : Nat) : Int) == 1) = false) (hG : isEl 1 (byts z) = true) (hz2 : ((z2 : Nat) : Int) = 1) :
    Calls Try.prog 6 #[.bool true, .int .u16 ((na : Nat) : Int), .int .u16 ((nb : Nat) : Int)] w fun e w' => e = .returned (.bool true) ∧ Below w.heap.size w w' := by
  go_enter Try.func6, Try.ntmps6
  have B := Below.refl w.heap.size w
  go_wp2_with fail
  refine (prime_any 1 _).mono ?_
  rintro e W1 ⟨va, rfl, La, hb⟩
  rw [pp1] at La
  replace B := B.trans (hb.mono B.size)
  clear hb
  obtain ⟨b1, o1, c1, rfl, _, hbw, h1⟩ := La.at_ (by simp)
  have g1 : W1.cell? ⟨b1, o1, none⟩ = some (.int .u64 2039) := h1 0 (by simp)
  clear h1 La
  go_wp2_with fail
  go_region
  rw [hx, hy]
  replace B := B.drew
  have g2 : (W1.drew).cell? ⟨b1, o1, none⟩ = some (.int .u64 2039) := g1
  have hbw2 : b1 < (W1.drew).heap.size := hbw
  clear g1 hx hy hbw
  generalize W1.drew = W2 at *
  go_wp2_with fail
  refine (refTo_one x _ (by omega)).mono ?_
  rintro e W3 ⟨T, rfl, ⟨T1, T2⟩, hb⟩
  replace B := B.trans (hb.mono B.size)
  replace g2 := (hb.cell (p := ⟨b1, o1, none⟩) hbw2).trans g2
  replace hbw2 := Nat.lt_of_lt_of_le hbw2 hb.size
  clear hb
  go_wp2_with fail
  refine (element_is 1 T true _ (by omega) (by rw [T1]; exact hE)).mono ?_
  rintro e W4 ⟨rfl, hb⟩
  replace B := B.trans (hb.mono B.size)
  replace g2 := (hb.cell (p := ⟨b1, o1, none⟩) hbw2).trans g2
  replace hbw2 := Nat.lt_of_lt_of_le hbw2 hb.size
  clear hb
  clear T1 T2
  go_wp2_with fail
  refine (refTo_one y _ (by omega)).mono ?_
  rintro e W5 ⟨S, rfl, ⟨S1, S2⟩, hb⟩
  replace B := B.trans (hb.mono B.size)
  replace g2 := (hb.cell (p := ⟨b1, o1, none⟩) hbw2).trans g2
  replace hbw2 := Nat.lt_of_lt_of_le hbw2 hb.size
  clear hb
  go_wp2_with fail
  refine (element_is 1 S true _ (by omega) (by rw [S1]; exact hF)).mono ?_
  rintro e W6 ⟨rfl, hb⟩
  replace B := B.trans (hb.mono B.size)
  replace g2 := (hb.cell (p := ⟨b1, o1, none⟩) hbw2).trans g2
  replace hbw2 := Nat.lt_of_lt_of_le hbw2 hb.size
  clear hb
  clear S1 S2
  go_wp2_with fail
  refine (awake5_any _).mono ?_
  rintro e W7 ⟨rfl, hb⟩
  replace B := B.trans (hb.mono B.size)
  clear hb
  go_wp2_with fail
  refine (refTo_one z _ (by omega)).mono ?_
  rintro e W8 ⟨U, rfl, ⟨U1, U2⟩, hb⟩
  replace B := B.trans (hb.mono B.size)
  clear hb
  go_wp2_with fail
  refine (element_is 1 U true _ (by omega) (by rw [U1]; exact hG)).mono ?_
  rintro e W9 ⟨rfl, hb⟩
  replace B := B.trans (hb.mono B.size)
  clear hb
  clear U1 U2
  go_wp2
  go_ret
  exact ⟨rfl, B⟩

set_option maxRecDepth 100000 in
set_option maxHeartbeats 8000000 in
theorem closes1_c3 (na nb x y : Nat) (w : World) (ha : na < 65536) (hb : nb < 65536) (hx : ((na : Nat) : Int) % 2039 = ((x : Nat) : Int)) (hy : ((nb : Nat) : Int) % 2039 = ((y : Nat) : Int)) (hxp : x < 2039) (hyp : y < 2039) (hE : isEl 1 (byts x) = true) (hF : isEl 1 (byts y) = true) (m m2 z z2 : Nat) (hm : ((x : Nat) : Int) * ((y : Nat) : Int) = ((m : Nat) : Int)) (hm2 : ((x : Nat) : Int) * ((x : Nat) : Int) = ((m2 : Nat) : Int)) (hml : m ≤ 9999999) (hml2 : m2 ≤ 9999999) (hmz : ((m : Nat) : Int) % 2039 = ((z : Nat) : Int)) (hmz2 : ((m2 : Nat) : Int) % 2039 = ((z2 : Nat) : Int)) (hzp : z < 2039) (hzp2 : z2 < 2039) (hz : ((z : Nat) : Int) = 1) (hz2 : ((z2 : Nat) : Int) = 1) :
    Calls Try.prog 6 #[.bool true, .int .u16 ((na : Nat) : Int), .int .u16 ((nb : Nat) : Int)] w fun e w' => e = .returned (.bool true) ∧ Below w.heap.size w w' := by
  go_enter Try.func6, Try.ntmps6
  have B := Below.refl w.heap.size w
  go_wp2_with fail
  refine (prime_any 1 _).mono ?_
  rintro e W1 ⟨va, rfl, La, hb⟩
  rw [pp1] at La
  replace B := B.trans (hb.mono B.size)
  clear hb
  obtain ⟨b1, o1, c1, rfl, _, hbw, h1⟩ := La.at_ (by simp)
  have g1 : W1.cell? ⟨b1, o1, none⟩ = some (.int .u64 2039) := h1 0 (by simp)
  clear h1 La
  go_wp2_with fail
  go_region
  rw [hx, hy]
  replace B := B.drew
  have g2 : (W1.drew).cell? ⟨b1, o1, none⟩ = some (.int .u64 2039) := g1
  have hbw2 : b1 < (W1.drew).heap.size := hbw
  clear g1 hx hy hbw
  generalize W1.drew = W2 at *
  go_wp2_with fail
  refine (refTo_one x _ (by omega)).mono ?_
  rintro e W3 ⟨T, rfl, ⟨T1, T2⟩, hb⟩
  replace B := B.trans (hb.mono B.size)
  replace g2 := (hb.cell (p := ⟨b1, o1, none⟩) hbw2).trans g2
  replace hbw2 := Nat.lt_of_lt_of_le hbw2 hb.size
  clear hb
  go_wp2_with fail
  refine (element_is 1 T true _ (by omega) (by rw [T1]; exact hE)).mono ?_
  rintro e W4 ⟨rfl, hb⟩
  replace B := B.trans (hb.mono B.size)
  replace g2 := (hb.cell (p := ⟨b1, o1, none⟩) hbw2).trans g2
  replace hbw2 := Nat.lt_of_lt_of_le hbw2 hb.size
  clear hb
  clear T1 T2
  go_wp2_with fail
  refine (refTo_one y _ (by omega)).mono ?_
  rintro e W5 ⟨S, rfl, ⟨S1, S2⟩, hb⟩
  replace B := B.trans (hb.mono B.size)
  replace g2 := (hb.cell (p := ⟨b1, o1, none⟩) hbw2).trans g2
  replace hbw2 := Nat.lt_of_lt_of_le hbw2 hb.size
  clear hb
  go_wp2_with fail
  refine (element_is 1 S true _ (by omega) (by rw [S1]; exact hF)).mono ?_
  rintro e W6 ⟨rfl, hb⟩
  replace B := B.trans (hb.mono B.size)
  replace g2 := (hb.cell (p := ⟨b1, o1, none⟩) hbw2).trans g2
  replace hbw2 := Nat.lt_of_lt_of_le hbw2 hb.size
  clear hb
  clear S1 S2
  go_wp2_with fail
  refine (awake5_any _).mono ?_
  rintro e W7 ⟨rfl, hb⟩
  replace B := B.trans (hb.mono B.size)
  clear hb
  go_wp2
  go_ret
  exact ⟨rfl, B⟩

theorem closes1_all (a b : Int) (w : World) (ha : (Lit.int .u16 a).wf = true) (hb : (Lit.int .u16 b).wf = true) :
    Calls Try.prog 6 #[.bool true, .int .u16 a, .int .u16 b] w fun e w' => e = .returned (.bool true) ∧ Below w.heap.size w w' := by
  obtain ⟨na, rfl, hna⟩ := u16_nat ha
  obtain ⟨nb, rfl, hnb⟩ := u16_nat hb
  have hx := mod_nat na 2039
  have hy := mod_nat nb 2039
  have hxp := Nat.mod_lt na (show 2039 > 0 by omega)
  have hyp := Nat.mod_lt nb (show 2039 > 0 by omega)
  generalize na % 2039 = x at *
  generalize nb % 2039 = y at *
  cases hE : isEl 1 (byts x) with
  | false => exact closes1_a na nb x y w hna hnb hx hy hxp hyp hE
  | true =>
    cases hF : isEl 1 (byts y) with
    | false => exact closes1_b na nb x y w hna hnb hx hy hxp hyp hE hF
    | true =>
      have kx := el_of (by omega) hE
      have ky := el_of (by omega) hF
      have hzp := Nat.mod_lt (x * y) (show 2039 > 0 by omega)
      have hzp2 := Nat.mod_lt (x * x) (show 2039 > 0 by omega)
      have hml := prod_le hxp hyp
      have hml2 := prod_le hxp hxp
      have k1 : x * y % 2039 ≠ 1 → isEl 1 (byts (x * y % 2039)) = true := fun h => el_true (by omega) (by have k := el_times kx ky (by rw [P_1]; exact h); rwa [P_1] at k ⊢)
      have k2 : x * x % 2039 ≠ 1 → isEl 1 (byts (x * x % 2039)) = true := fun h => el_true (by omega) (by have k := el_times kx kx (by rw [P_1]; exact h); rwa [P_1] at k ⊢)
      by_cases e1 : x * y % 2039 = 1
      · by_cases e2 : x * x % 2039 = 1
        · exact closes1_c3 na nb x y w hna hnb hx hy hxp hyp hE hF (x * y) (x * x) _ _ (Int.natCast_mul x y).symm (Int.natCast_mul x x).symm (by omega) (by omega) (mod_nat _ _) (mod_nat _ _) hzp hzp2 (by rw [e1]; rfl) (by rw [e2]; rfl)
        · exact closes1_c1 na nb x y w hna hnb hx hy hxp hyp hE hF (x * y) (x * x) _ _ (Int.natCast_mul x y).symm (Int.natCast_mul x x).symm (by omega) (by omega) (mod_nat _ _) (mod_nat _ _) hzp hzp2 (by rw [e1]; rfl) (ne_one e2) (k2 e2)
      · by_cases e2 : x * x % 2039 = 1
        · exact closes1_c2 na nb x y w hna hnb hx hy hxp hyp hE hF (x * y) (x * x) _ _ (Int.natCast_mul x y).symm (Int.natCast_mul x x).symm (by omega) (by omega) (mod_nat _ _) (mod_nat _ _) hzp hzp2 (ne_one e1) (k1 e1) (by rw [e2]; rfl)
        · exact closes1_c0 na nb x y w hna hnb hx hy hxp hyp hE hF (x * y) (x * x) _ _ (Int.natCast_mul x y).symm (Int.natCast_mul x x).symm (by omega) (by omega) (mod_nat _ _) (mod_nat _ _) hzp hzp2 (ne_one e1) (k1 e1) (ne_one e2) (k2 e2)

theorem groupCloses_walk (sm : Bool) (a b : Int) (w : World) (ha : (Lit.int .u16 a).wf = true) (hb : (Lit.int .u16 b).wf = true) :
    Calls Try.prog 6 #[.bool sm, .int .u16 a, .int .u16 b] w fun e w' => e = .returned (.bool true) ∧ Below w.heap.size w w' := by
  cases sm
  · exact closes0_all a b w ha hb
  · exact closes1_all a b w ha hb

end Go.Proofs.Ytmbdidompjgaaaa
