/- Several texts in one: each part says what it proves, and under which conditions. -/
import Derived.Test.YtjnefacdindamaaGreatDoorOctFA
import Derived.Laws.IdiomStrings
import Derived.Test.YtjnefacdindamaaGreatDoorRefA
import Derived.Laws.Concat

/- octet.To answers the bytes of a number. Conditions: the slice reads as limbs; at most 2^40 of them. -/
namespace Go.Proofs.YtjnefacdindamaaGreatDoor
open Go.RowKit Go.Shelf Num
set_option linter.unusedVariables false
set_option maxRecDepth 100000

/-- Block g is a row of n bytes, the j-th being f j. -/
def RowB (w : World) (g n : Nat) (f : Nat → UInt8) : Prop := w.rowIs g 5 n (fun j => .int .u8 (((f j).toNat : Nat) : Int))
theorem infoB : (Tryz.prog.info? 5).map (fun i => (i.zero, i.size, i.bytes)) = some (some (.int .u8 0), 1, 1) := by kernel_rfl
theorem rowB_made (w : World) (n : Nat) : RowB (w.alloc (.cells (madeCells #[.int .u8 0] n) 5)) w.heap.size n (fun _ => 0) := World.rowIs_made w _ n _
/-- The byte at i of a number. -/
def byt (n i : Nat) : UInt8 := UInt8.ofNat (n / 256 ^ (nbyt n - 1 - i))
theorem RowB.lay {w : World} {g m n k : Nat} (h : RowB w g m (fun j => if j < k then byt n j else 0)) {c : Nat} (hc : c = (byt n k).toNat) :
    RowB (w.setCell ⟨g, k, none⟩ (.int .u8 (c : Int))) g m (fun j => if j < k + 1 then byt n j else 0) := by
  refine (World.rowIs.set h k _).congr fun j _ => ?_
  by_cases hj : j = k
  · subst hj
    simp [hc]
  · have e : (j < k + 1) = (j < k) := propext ⟨fun _ => by omega, fun _ => by omega⟩
    simp only [hj, e, if_false]
/-- What is shifted down and cut is the byte. -/
theorem cut_byte {xs : List Nat} (h : Ok xs) {i q t : Nat} (hq : q = (nbyt (val xs) - 1 - i) / 8) (ht : t = 8 * ((nbyt (val xs) - 1 - i) % 8)) :
    ((lat xs q : Nat) : Int) / 2 ^ t % 256 = (((byt (val xs) i).toNat : Nat) : Int) := by
  have e : ((lat xs q : Nat) : Int) / 2 ^ t = ((lat xs q / 2 ^ t : Nat) : Int) := by rw [Int.natCast_ediv, Int.natCast_pow]; rfl
  have e2 := lim_byte (val xs) (nbyt (val xs) - 1 - i)
  rw [← lat_val xs h, ← hq, pow_256 (_ % 8), ← ht] at e2
  unfold byt
  rw [e, ofNat_mod, ← e2]
  rfl

theorem row_text {w : World} {g m n : Nat} (h : RowB w g m (fun j => if j < m then byt n j else 0)) (hm : m = nbyt n) :
    (convert 62 9 (.slice (some ⟨g, 0, none⟩) m m)).run Tryz.prog w = .ok (.string ⟨(byts n).toArray⟩) w := by
  have hl : (byts n).length = m := by rw [byts_length, hm]
  have e := run_convert_bytes_back (P := Tryz.prog) w 62 9 5 ⟨g, 0, none⟩ m (byts n) Tryz.underlying62 Tryz.underlying5 Tryz.underlying9 (fun j hj => by
    rw [hl] at hj
    have h1 := World.rowIs.cell h (i := j) hj
    have h2 : (byts n)[j]? = some (byt n j) := digs_get _ _ _ (by omega)
    have h3 : (byts n)[j]'(by rw [hl]; exact hj) = byt n j := by
      rw [List.getElem?_eq_getElem (by rw [hl]; exact hj)] at h2
      injection h2
    rw [h3]
    simp only [hj, if_true] at h1
    rcases Nat.eq_zero_or_pos j with rfl | h0
    · simpa [Addr.add] using h1
    · simpa [Addr.add, show j ≠ 0 from by omega] using h1)
  rw [hl] at e
  exact e

set_option maxRecDepth 100000 in
set_option maxHeartbeats 4000000 in
theorem to_any (v : Value) (xs : List Nat) (w : World) (hL : Lim w.heap.size w v xs) (hlx : xs.length ≤ 1099511627776) :
    Calls Tryz.prog 78 #[v] w fun e W' => e = .returned (.string ⟨(byts (val xs)).toArray⟩) ∧ Below w.heap.size w W' := by
  obtain ⟨i0, hi, hz0, hz1, hz2⟩ := info_parts infoB
  have ho := hL.ok
  have hnl := nbyt_limbs ho
  have HC := Lib.hid (bits_any _ v xs w hL hlx)
  obtain ⟨n, hn⟩ : ∃ n, n = nbyt (val xs) := ⟨_, rfl⟩
  have hn1 : n ≤ 8796093022208 := by omega
  have hnb : nbits (val xs) ≤ 1125899906842624 := by
    have h1 : n = (nbits (val xs) + 7) / 8 := hn
    omega
  have HN := Lib.hid hn
  rw [← hn] at hnl
  clear hn
  obtain ⟨A, ca, rfl, hca, hna, _, hra⟩ := id hL
  go_enter Tryz.func78, Tryz.ntmps78
  go_wp2_with (first
    | (go_at_call 101; refine HC.out.mono ?_; rintro e w' ⟨rfl, rfl⟩)
    | (go_at_call 91; refine (upTo_any (nbits (val xs)) n _ hnb HN.out).mono ?_; rintro e w' ⟨rfl, rfl⟩)
    | (refine wpList_make_row _ rfl _ _ 62 rfl 5 i0 (.int .u8 0) Tryz.underlying62 hi hz0 hz1 rfl .i64 .i64 n rfl rfl (by rw [hz2]; omega) (by omega) ?_))
  have hR0 := rowB_made w n
  have hB0 : Below w.heap.size w (w.alloc (.cells (madeCells #[.int .u8 0] n) 5)) := (Below.refl _ w).alloc (Nat.le_refl _) _
  generalize w.alloc (.cells (madeCells #[.int .u8 0] n) 5) = w1 at hR0 hB0 ⊢
  have hR1 : RowB w1 w.heap.size n (fun j => if j < 0 then byt (val xs) j else 0) := by simpa using hR0
  clear hR0
  go_loopw [13] (fun i wr => ∃ (k : Nat), k ≤ n ∧ i = .int .i64 k ∧ RowB wr w.heap.size n (fun j => if j < k then byt (val xs) j else 0) ∧ Below w.heap.size w wr)
    (fun i _ => n - (intOf i).toNat)
  case atStart => exact ⟨0, Nat.zero_le _, rfl, hR1, hB0⟩
  case round =>
    obtain ⟨k, hk, rfl, hR, hB⟩ := hrel
    by_cases hlt : k < n
    · have hd : decide (k < n) = true := by simpa using hlt
      obtain ⟨q, hq⟩ : ∃ q, q = (n - 1 - k) / 8 := ⟨_, rfl⟩
      obtain ⟨t, ht⟩ : ∃ t, t = 8 * ((n - 1 - k) % 8) := ⟨_, rfl⟩
      have hqn : q < xs.length := by omega
      have hmin : min t 64 = t := by omega
      have HQ := Lib.hid hq
      have HT := Lib.hid ht
      have hcut := cut_byte ho (i := k) (q := q) (t := t) (by rw [← HN.out]; exact hq) (by rw [← HN.out]; exact ht)
      clear hq ht
      obtain ⟨b, off, rfl, hbg, hcell⟩ := hra (by omega)
      have hck : wr.cell? ⟨b, off + q, none⟩ = some (.int .u64 ((lat xs q : Nat) : Int)) := (hB.cell (p := ⟨b, off + q, none⟩) hbg).trans (hcell q hqn)
      clear hcell hra
      have hcs := World.rowIs.cell hR (i := k) hlt
      have hfz := World.rowIs.frozen hR k
      have hx := ok_get ho q
      go_wp2_with (go_at_call 92; refine (place_any n k q t _ (by omega) hlt HQ.out HT.out).mono ?_; rintro e w' ⟨rfl, rfl⟩)
      go_roundw
      case rel => exact ⟨k + 1, by omega, by go_num, hR.lay rfl, hB.setCell (p := ⟨w.heap.size, k, none⟩) (Nat.le_refl _) _⟩
      case measure => simp [intOf]; omega
    · have hd : decide (k < n) = false := by simpa using hlt
      obtain rfl : k = n := by omega
      have hcv := row_text hR HN.out
      go_wp2
      go_ret
      exact ⟨rfl, hB⟩

end Go.Proofs.YtjnefacdindamaaGreatDoor


/- The document's To (package lodgeref03) answers the bytes of a number. Conditions: the slice reads as limbs; at most 2^40 of them. -/
namespace Go.Proofs.YtjnefacdindamaaGreatDoor
open Go.RowKit Go.Shelf Num
set_option linter.unusedVariables false
set_option maxRecDepth 100000

theorem byts_cut (n p : Nat) : n / 256 ^ p = 256 * (n / 256 ^ (p + 1)) + n / 256 ^ p % 256 := by
  rw [Nat.pow_succ, ← Nat.div_div_eq_div_mul]
  omega
theorem one_text (w : World) (c : Nat) (hc : c < 256) :
    (convert 62 9 (.slice (some ⟨w.heap.size, 0, none⟩) 1 1)).run Tryz.prog (w.alloc (.cells #[.int .u8 (c : Int)] 5)) = .ok (.string ⟨#[UInt8.ofNat c]⟩) (w.alloc (.cells #[.int .u8 (c : Int)] 5)) := by
  have e := run_convert_bytes_back (P := Tryz.prog) (w.alloc (.cells #[.int .u8 (c : Int)] 5)) 62 9 5 ⟨w.heap.size, 0, none⟩ 1 [UInt8.ofNat c] Tryz.underlying62 Tryz.underlying5 Tryz.underlying9 (fun j hj => by
    have hj0 : j = 0 := by simp at hj; omega
    subst hj0
    simp [Addr.add, Nat.mod_eq_of_lt hc])
  exact e
theorem text_more (l : List UInt8) (b : UInt8) : (⟨l.toArray⟩ : ByteArray) ++ ⟨#[b]⟩ = ⟨(l ++ [b]).toArray⟩ := by
  rw [ByteArray.mk_append_mk]
theorem text_nil (l : List UInt8) : ((⟨l.toArray⟩ : ByteArray).toList == (⟨#[]⟩ : ByteArray).toList) = (l == []) := by
  rw [Lib.toList_data, Lib.toList_data]

set_option maxRecDepth 100000 in
set_option maxHeartbeats 4000000 in
theorem refTo_any (v : Value) (xs : List Nat) (w : World) (hL : Lim w.heap.size w v xs) (hlx : xs.length ≤ 1099511627776) :
    Calls Tryz.prog 47 #[v] w fun e W' => e = .returned (.string ⟨(byts (val xs)).toArray⟩) ∧ Below w.heap.size w W' := by
  have ho := hL.ok
  have hsl : ∃ A ca la, v = .slice A la ca := by
    obtain ⟨A, ca, h, _⟩ := id hL
    exact ⟨A, ca, _, h⟩
  have hlen : (limbs (val xs)).length ≤ 1099511627776 := by
    have h2 := hgt_le xs
    rw [limbs_val ho]
    unfold hgt at h2
    omega
  have HCT := Lib.hid (refTrim_any _ xs _ hL (by omega))
  generalize val xs = n at *
  clear hL ho hlx
  obtain ⟨A, ca, la, rfl⟩ : ∃ A ca la, v = .slice A la ca := hsl
  go_enter Tryz.func47, Tryz.ntmps47
  go_wp2_with (go_at_call 59; refine HCT.out.mono ?_; rintro e W1 ⟨r, rfl, hR, hB⟩; obtain ⟨R, cr, rfl, hcr, hnr, hor, hrr⟩ := hR)
  have hlat : ∀ i, lat (limbs n) i = lim n i := fun i => by rw [lat_val _ hor, val_limbs]
  have hlt : n / M ^ (limbs n).length = 0 := by
    apply Nat.div_eq_of_lt
    have := val_lt hor
    rwa [val_limbs] at this
  have HLT := Lib.hid hlt
  have HLA := Lib.hid hlat
  have hnb : nbyt n ≤ 8 * 1099511627776 := by
    have := nbyt_limbs hor
    rw [val_limbs] at this
    omega
  clear hlt hlat
  generalize limbs n = T at *
  go_loopw [3, 5] (fun s i wr => ∃ (k : Nat), k ≤ T.length ∧ i = .int .i64 ((k : Int) - 1) ∧ s = .string ⟨(byts (n / M ^ k)).toArray⟩ ∧ Below W1.heap.size W1 wr)
    (fun _ i _ => (intOf i + 1).toNat)
  case atStart => exact ⟨T.length, Nat.le_refl _, congrArg (Value.int .i64) (by omega), by rw [HLT.out]; rfl, Below.refl _ _⟩
  case round =>
    obtain ⟨k, hk, rfl, rfl, hBk⟩ := hrel
    rcases Nat.eq_zero_or_pos k with rfl | hp
    · have hd : decide ((0 : Int) ≤ ((0 : Nat) : Int) - 1) = false := by simp
      go_wp2
      go_ret
      refine ⟨?_, hB.trans (hBk.mono hB.size)⟩
      simp
    · obtain ⟨i, rfl⟩ : ∃ i, k = i + 1 := ⟨k - 1, by omega⟩
      have hd1 : decide ((0 : Int) ≤ ((i + 1 : Nat) : Int) - 1) = true := decide_eq_true (by omega)
      have hd2 : decide ((1 : Int) ≤ ((i + 1 : Nat) : Int)) = true := decide_eq_true (by omega)
      obtain ⟨b, off, rfl, hbg, hcell⟩ := hrr (by omega)
      have hck0 := hcell i (by omega)
      rw [HLA.out i] at hck0
      have HCK := Lib.hid hck0
      clear hcell hrr hck0
      have e0 : M ^ (i + 1) = 256 ^ (8 * i + 8) := by rw [M_pow_256]; congr 1
      rw [e0]
      clear e0
      go_wp2_with fail
      go_loopw [3, 6] (fun s j wr => ∃ (l : Nat), l ≤ 8 ∧ j = .int .i64 ((l : Int) - 1) ∧ s = .string ⟨(byts (n / 256 ^ (8 * i + l))).toArray⟩ ∧ Below W1.heap.size W1 wr)
        (fun _ j _ => (intOf j + 1).toNat)
      case atStart => exact ⟨8, Nat.le_refl _, rfl, rfl, hBk⟩
      case round =>
        clear hBk
        obtain ⟨l, hl, rfl, rfl, hBk⟩ := hrel
        rcases Nat.eq_zero_or_pos l with rfl | hp2
        · go_wp2_with fail
          go_roundw
          case rel => exact ⟨i, by omega, by go_num, by rw [M_pow_256]; rfl, hBk⟩
          case measure => simp [intOf]
        · obtain ⟨j, rfl⟩ : ∃ j, l = j + 1 := ⟨l - 1, by omega⟩
          have hd3 : decide ((0 : Int) ≤ ((j + 1 : Nat) : Int) - 1) = true := decide_eq_true (by omega)
          have hd4 : decide ((1 : Int) ≤ ((j + 1 : Nat) : Int)) = true := decide_eq_true (by omega)
          have hck : wr.cell? ⟨b, off + i, none⟩ = some (.int .u64 ((lim n i : Nat) : Int)) := (hBk.cell (p := ⟨b, off + i, none⟩) hbg).trans HCK.out
          have hcut := byts_cut n (8 * i + j)
          have hb2 := lim_byte n (8 * i + j)
          rw [show (8 * i + j) / 8 = i from by omega, show (8 * i + j) % 8 = j from by omega, pow_256 j] at hb2
          have hc := Nat.mod_lt (n / 256 ^ (8 * i + j)) (show 256 > 0 by omega)
          generalize n / 256 ^ (8 * i + j) % 256 = c at *
          have hX := lim_lt n i
          generalize lim n i = X at *
          have hcI : ((X : Nat) : Int) / 2 ^ (8 * j) % 256 = (c : Int) := by
            have e : ((X : Nat) : Int) / 2 ^ (8 * j) = ((X / 2 ^ (8 * j) : Nat) : Int) := by rw [Int.natCast_ediv, Int.natCast_pow]; rfl
            rw [e, ← hb2]
            rfl
          have HCUT := Lib.hid hcut
          have HN := Lib.hid hnb
          clear hcut hb2
          have hsm : nbyt (n / 256 ^ (8 * i + (j + 1))) ≤ 8 * 1099511627776 := by
            refine Nat.le_trans ?_ hnb
            rw [nbyt_le]
            exact Nat.lt_of_le_of_lt (Nat.div_le_self _ _) (nbyt_le.1 (Nat.le_refl _))
          rw [show 8 * i + j + 1 = 8 * i + (j + 1) from rfl] at HCUT
          generalize n / 256 ^ (8 * i + (j + 1)) = m at *
          have hsz : (⟨(byts m).toArray⟩ : ByteArray).size = nbyt m := by rw [size_data]; exact byts_length m
          have hcv := one_text wr c hc
          have hadd : nbyt m + 1 ≤ 9223372036854775807 := by omega
          have hz1 : (⟨#[UInt8.ofNat c]⟩ : ByteArray).size = 1 := rfl
          by_cases hm : m = 0
          · subst hm
            have hem : (byts 0).isEmpty = true := rfl
            by_cases hc0 : c = 0
            · subst hc0
              have h0 : n / 256 ^ (8 * i + j) = 0 := by rw [HCUT.out]
              have H0 := Lib.hid h0
              clear h0
              go_wp2_with fail
              go_roundw
              case rel => exact ⟨j, by omega, by go_num, by rw [H0.out], hBk⟩
              case measure => simp [intOf]
            · have hne : ((c : Int) != 0) = true := by simpa using hc0
              have HS := Lib.hid (byts_snoc 0 c hc (.inr hc0))
              rw [← HCUT.out] at HS
              go_wp2_with fail
              go_roundw
              case rel => exact ⟨j, by omega, by go_num, by rw [HS.out, ← text_more], hBk.alloc hBk.size _⟩
              case measure => simp [intOf]
          · have hem : (byts m).isEmpty = false := by
              rcases h : byts m with _ | ⟨x, t⟩
              · exact absurd (byts_nil h) hm
              · rfl
            have HS := Lib.hid (byts_snoc m c hc (.inl hm))
            rw [← HCUT.out] at HS
            go_wp2_with fail
            go_roundw
            case rel => exact ⟨j, by omega, by go_num, by rw [HS.out, ← text_more], hBk.alloc hBk.size _⟩
            case measure => simp [intOf]

end Go.Proofs.YtjnefacdindamaaGreatDoor
