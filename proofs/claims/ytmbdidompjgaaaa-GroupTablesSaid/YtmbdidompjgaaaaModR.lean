/- modulus.raise answers what its function's products come to, by the bits of the exponent: for the method value and for the closure that it is handed. Conditions: the slices read as limbs; lengths below 2^38; what the function answers at each two that were reached. -/
import Derived.Test.YtmbdidompjgaaaaModL
import Derived.Test.YtmbdidompjgaaaaLen
namespace Go.Proofs.Ytmbdidompjgaaaa
open Go.RowKit Go.Shelf Num
set_option linter.unusedVariables false

/-- Answers a list of which P holds; nothing below is turned. -/
def Has (P : List Nat → Prop) (w : World) : Ending → World → Prop := fun e W' => ∃ r rs, e = .returned r ∧ Lim W'.heap.size W' r rs ∧ P rs ∧ Below w.heap.size w W'

theorem nbits_len {xs : List Nat} (ho : Ok xs) : nbits (val xs) ≤ 64 * xs.length := by
  refine nbits_le.2 ?_
  rw [← M_pow]
  exact val_lt ho

set_option maxRecDepth 100000 in
set_option maxHeartbeats 4000000 in
theorem raise_times (S : Nat → List Nat → Prop) (o : Value) (vo vb ve : Value) (os bs es : List Nat) (w : World) (hLo : Lim w.heap.size w vo os) (hLb : Lim w.heap.size w vb bs) (hLe : Lim w.heap.size w ve es) (hle : es.length ≤ 137438953472)
    (h0 : S 0 os) (h1 : S 1 bs)
    (HT : ∀ (W : World) (x y : Value) (xs ys : List Nat) (k l : Nat), Below w.heap.size w W → Lim W.heap.size W x xs → Lim W.heap.size W y ys → S k xs → S l ys → Calls Try.prog 69 #[o, x, y] W (Has (S (k + l)) W)) :
    Calls Try.prog 53 #[vo, vb, ve, .func (.func 69) #[o] #[]] w (Has (S (val es)) w) := by
  have hnb := nbits_len hLe.ok
  have hS0 : S (val es / 2 ^ nbits (val es)) os := by rw [half_top]; exact h0
  have HS0 := Lib.hid hS0
  have HK := Lib.hid HT
  have H1 := Lib.hid h1
  clear HT hS0 h0 h1
  obtain ⟨A, ca, rfl, _⟩ := id hLo
  obtain ⟨B, cb, rfl, _⟩ := id hLb
  obtain ⟨C, cc, rfl, _⟩ := id hLe
  go_enter Try.func53, Try.ntmps53
  go_wp2_with fail
  refine (bits_any w.heap.size _ es w hLe (by omega)).mono ?_
  rintro e W1 ⟨rfl, rfl⟩
  generalize hN : nbits (val es) = N at *
  go_wp2
  go_loopw [9, 10] (fun p i wr => ∃ (c : Nat) (rs : List Nat), c ≤ N ∧ i = .int .i64 ((c : Int) - 1) ∧ Lim wr.heap.size wr p rs ∧ S (val es / 2 ^ c) rs ∧ Below w.heap.size w wr)
    (fun _ i _ => (intOf i + 1).toNat)
  case atStart => exact ⟨N, os, Nat.le_refl _, rfl, hLo, HS0.out, Below.refl _ _⟩
  case round =>
    obtain ⟨c, rs, hc, rfl, hLp, hS, hB⟩ := hrel
    have HS := Lib.hid hS
    clear hS
    rcases Nat.eq_zero_or_pos c with rfl | hp
    · have hd : decide (0 ≤ (((0 : Nat) : Int) - 1)) = false := by simp
      go_wp2
      go_ret
      refine ⟨_, rs, rfl, hLp, ?_, hB⟩
      have := HS.out
      rwa [half_zero] at this
    · obtain ⟨j, rfl⟩ : ∃ j, c = j + 1 := ⟨c - 1, by omega⟩
      rw [show (((j + 1 : Nat) : Int) - 1) = (j : Int) by omega]
      have hd : decide (0 ≤ (j : Int)) = true := by simp
      have K1 := HK.out wr _ _ rs rs _ _ hB hLp hLp HS.out HS.out
      have HK1 := Lib.hid K1
      clear K1
      obtain ⟨P, cp, rfl, _⟩ := id hLp
      go_wp2_with fail
      refine HK1.out.mono ?_
      rintro e W2 ⟨r2, rs2, rfl, L2, S2, hB2⟩
      have hB12 := hB.trans (hB2.mono hB.size)
      have HS2 := Lib.hid S2
      clear S2 HK1
      have hst := half_step (val es) j
      have K2 := bit_any W2.heap.size (.slice C es.length cc) es j W2 ((hLe.next hB).next hB2) (by omega)
      rcases (show bitN (val es) j = 0 ∨ bitN (val es) j = 1 by have := bitN_le (val es) j; omega) with hbit | hbit
      · rw [hbit] at K2 hst
        have HST := Lib.hid hst
        have HK2 := Lib.hid K2
        clear K2 hst
        go_wp2_with fail
        refine HK2.out.mono ?_
        rintro e W3 ⟨rfl, rfl⟩
        go_wp2_with fail
        go_roundw
        case rel =>
          refine ⟨j, rs2, by omega, by go_num, L2, ?_, hB12⟩
          have e := HST.out
          rw [Nat.add_zero] at e
          rw [e]
          exact HS2.out
        case measure => simp [intOf]
      · rw [hbit] at K2 hst
        have HST := Lib.hid hst
        have HK2 := Lib.hid K2
        have K3 := HK.out W2 r2 _ rs2 bs _ _ hB12 L2 ((hLb.next hB).next hB2) HS2.out H1.out
        have HK3 := Lib.hid K3
        clear K2 hst K3
        obtain ⟨P2, cp2, rfl, _⟩ := id L2
        go_wp2_with fail
        refine HK2.out.mono ?_
        rintro e W3 ⟨rfl, rfl⟩
        go_wp2_with fail
        refine HK3.out.mono ?_
        rintro e W4 ⟨r4, rs4, rfl, L4, S4, hB4⟩
        have HS4 := Lib.hid S4
        clear S4
        go_wp2_with fail
        go_roundw
        case rel =>
          refine ⟨j, rs4, by omega, by go_num, L4, ?_, hB12.trans (hB4.mono hB12.size)⟩
          rw [HST.out]
          exact HS4.out
        case measure => simp [intOf]

set_option maxRecDepth 100000 in
set_option maxHeartbeats 4000000 in
theorem raise_closure (S : Nat → List Nat → Prop) (b : Nat) (vo vb ve : Value) (os bs es : List Nat) (w : World) (hLo : Lim w.heap.size w vo os) (hLb : Lim w.heap.size w vb bs) (hLe : Lim w.heap.size w ve es) (hle : es.length ≤ 137438953472)
    (h0 : S 0 os) (h1 : S 1 bs)
    (HT : ∀ (W : World) (x y : Value) (xs ys : List Nat) (k l : Nat), Below w.heap.size w W → Lim W.heap.size W x xs → Lim W.heap.size W y ys → S k xs → S l ys → Calls Try.prog 54 #[x, y, .pointer (some ⟨b, 0, none⟩)] W (Has (S (k + l)) W)) :
    Calls Try.prog 53 #[vo, vb, ve, .func (.func 54) #[] #[.pointer (some ⟨b, 0, none⟩)]] w (Has (S (val es)) w) := by
  have hnb := nbits_len hLe.ok
  have hS0 : S (val es / 2 ^ nbits (val es)) os := by rw [half_top]; exact h0
  have HS0 := Lib.hid hS0
  have HK := Lib.hid HT
  have H1 := Lib.hid h1
  clear HT hS0 h0 h1
  obtain ⟨A, ca, rfl, _⟩ := id hLo
  obtain ⟨B, cb, rfl, _⟩ := id hLb
  obtain ⟨C, cc, rfl, _⟩ := id hLe
  go_enter Try.func53, Try.ntmps53
  go_wp2_with fail
  refine (bits_any w.heap.size _ es w hLe (by omega)).mono ?_
  rintro e W1 ⟨rfl, rfl⟩
  generalize hN : nbits (val es) = N at *
  go_wp2
  go_loopw [9, 10] (fun p i wr => ∃ (c : Nat) (rs : List Nat), c ≤ N ∧ i = .int .i64 ((c : Int) - 1) ∧ Lim wr.heap.size wr p rs ∧ S (val es / 2 ^ c) rs ∧ Below w.heap.size w wr)
    (fun _ i _ => (intOf i + 1).toNat)
  case atStart => exact ⟨N, os, Nat.le_refl _, rfl, hLo, HS0.out, Below.refl _ _⟩
  case round =>
    obtain ⟨c, rs, hc, rfl, hLp, hS, hB⟩ := hrel
    have HS := Lib.hid hS
    clear hS
    rcases Nat.eq_zero_or_pos c with rfl | hp
    · have hd : decide (0 ≤ (((0 : Nat) : Int) - 1)) = false := by simp
      go_wp2
      go_ret
      refine ⟨_, rs, rfl, hLp, ?_, hB⟩
      have := HS.out
      rwa [half_zero] at this
    · obtain ⟨j, rfl⟩ : ∃ j, c = j + 1 := ⟨c - 1, by omega⟩
      rw [show (((j + 1 : Nat) : Int) - 1) = (j : Int) by omega]
      have hd : decide (0 ≤ (j : Int)) = true := by simp
      have K1 := HK.out wr _ _ rs rs _ _ hB hLp hLp HS.out HS.out
      have HK1 := Lib.hid K1
      clear K1
      obtain ⟨P, cp, rfl, _⟩ := id hLp
      go_wp2_with fail
      refine HK1.out.mono ?_
      rintro e W2 ⟨r2, rs2, rfl, L2, S2, hB2⟩
      have hB12 := hB.trans (hB2.mono hB.size)
      have HS2 := Lib.hid S2
      clear S2 HK1
      have hst := half_step (val es) j
      have K2 := bit_any W2.heap.size (.slice C es.length cc) es j W2 ((hLe.next hB).next hB2) (by omega)
      rcases (show bitN (val es) j = 0 ∨ bitN (val es) j = 1 by have := bitN_le (val es) j; omega) with hbit | hbit
      · rw [hbit] at K2 hst
        have HST := Lib.hid hst
        have HK2 := Lib.hid K2
        clear K2 hst
        go_wp2_with fail
        refine HK2.out.mono ?_
        rintro e W3 ⟨rfl, rfl⟩
        go_wp2_with fail
        go_roundw
        case rel =>
          refine ⟨j, rs2, by omega, by go_num, L2, ?_, hB12⟩
          have e := HST.out
          rw [Nat.add_zero] at e
          rw [e]
          exact HS2.out
        case measure => simp [intOf]
      · rw [hbit] at K2 hst
        have HST := Lib.hid hst
        have HK2 := Lib.hid K2
        have K3 := HK.out W2 r2 _ rs2 bs _ _ hB12 L2 ((hLb.next hB).next hB2) HS2.out H1.out
        have HK3 := Lib.hid K3
        clear K2 hst K3
        obtain ⟨P2, cp2, rfl, _⟩ := id L2
        go_wp2_with fail
        refine HK2.out.mono ?_
        rintro e W3 ⟨rfl, rfl⟩
        go_wp2_with fail
        refine HK3.out.mono ?_
        rintro e W4 ⟨r4, rs4, rfl, L4, S4, hB4⟩
        have HS4 := Lib.hid S4
        clear S4
        go_wp2_with fail
        go_roundw
        case rel =>
          refine ⟨j, rs4, by omega, by go_num, L4, ?_, hB12.trans (hB4.mono hB12.size)⟩
          rw [HST.out]
          exact HS4.out
        case measure => simp [intOf]

end Go.Proofs.Ytmbdidompjgaaaa
