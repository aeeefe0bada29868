/- octet.To answers the bytes of a number. Conditions: the slice reads as limbs; at most 2^40 of them. -/
import Derived.Test.YtilbkfgbbajelaaOctA
import Derived.Laws.IdiomStrings
namespace Go.Proofs.Ytilbkfgbbajelaa
open Go.RowKit Go.Shelf Num
set_option linter.unusedVariables false

/-- Block g is a row of n bytes, the j-th being f j. -/
def RowB (w : World) (g n : Nat) (f : Nat → UInt8) : Prop := w.rowIs g 5 n (fun j => .int .u8 (((f j).toNat : Nat) : Int))
theorem infoB : (Try.prog.info? 5).map (fun i => (i.zero, i.size, i.bytes)) = some (some (.int .u8 0), 1, 1) := by kernel_rfl
theorem rowB_made (w : World) (n : Nat) : RowB (w.alloc (.cells (madeCells #[.int .u8 0] n) 5)) w.heap.size n (fun _ => 0) := World.rowIs_made w _ n _
/-- The byte at i of a number. -/
def byt (n i : Nat) : UInt8 := UInt8.ofNat (n / 256 ^ (nbyt n - 1 - i))
theorem RowB.lay {w : World} {g m n k : Nat} (h : RowB w g m (fun j => if j < k then byt n j else 0)) {c : Nat} (hc : c = (byt n k).toNat) :
    RowB (w.setCell ⟨g, k, none⟩ (.int .u8 (c : Int))) g m (fun j => if j < k + 1 then byt n j else 0) := by
  refine (World.rowIs.set h k _).congr fun j _ => ?_
  by_cases hj : j = k
  · subst hj
    simp [hc]
  · have e : (j < k + 1) = (j < k) := propext ⟨fun _ => by omega, fun _ => by omega⟩
    simp only [hj, e, if_false]
/-- What is shifted down and cut is the byte. -/
theorem cut_byte {xs : List Nat} (h : Ok xs) {i q t : Nat} (hq : q = (nbyt (val xs) - 1 - i) / 8) (ht : t = 8 * ((nbyt (val xs) - 1 - i) % 8)) :
    ((lat xs q : Nat) : Int) / 2 ^ t % 256 = (((byt (val xs) i).toNat : Nat) : Int) := by
  have e : ((lat xs q : Nat) : Int) / 2 ^ t = ((lat xs q / 2 ^ t : Nat) : Int) := by rw [Int.natCast_ediv, Int.natCast_pow]; rfl
  have e2 := lim_byte (val xs) (nbyt (val xs) - 1 - i)
  rw [← lat_val xs h, ← hq, pow_256 (_ % 8), ← ht] at e2
  unfold byt
  rw [e, ofNat_mod, ← e2]
  rfl

theorem row_text {w : World} {g m n : Nat} (h : RowB w g m (fun j => if j < m then byt n j else 0)) (hm : m = nbyt n) :
    (convert 48 9 (.slice (some ⟨g, 0, none⟩) m m)).run Try.prog w = .ok (.string ⟨(byts n).toArray⟩) w := by
  have hl : (byts n).length = m := by rw [byts_length, hm]
  have e := run_convert_bytes_back (P := Try.prog) w 48 9 5 ⟨g, 0, none⟩ m (byts n) Try.underlying48 Try.underlying5 Try.underlying9 (fun j hj => by
    rw [hl] at hj
    have h1 := World.rowIs.cell h (i := j) hj
    have h2 : (byts n)[j]? = some (byt n j) := digs_get _ _ _ (by omega)
    have h3 : (byts n)[j]'(by rw [hl]; exact hj) = byt n j := by
      rw [List.getElem?_eq_getElem (by rw [hl]; exact hj)] at h2
      injection h2
    rw [h3]
    simp only [hj, if_true] at h1
    rcases Nat.eq_zero_or_pos j with rfl | h0
    · simpa [Addr.add] using h1
    · simpa [Addr.add, show j ≠ 0 from by omega] using h1)
  rw [hl] at e
  exact e

set_option maxRecDepth 100000 in
set_option maxHeartbeats 4000000 in
theorem to_any (v : Value) (xs : List Nat) (w : World) (hL : Lim w.heap.size w v xs) (hlx : xs.length ≤ 1099511627776) :
    Calls Try.prog 35 #[v] w fun e W' => e = .returned (.string ⟨(byts (val xs)).toArray⟩) ∧ Below w.heap.size w W' := by
  obtain ⟨i0, hi, hz0, hz1, hz2⟩ := info_parts infoB
  have ho := hL.ok
  have hnl := nbyt_limbs ho
  have HC := Lib.hid (bits_any _ v xs w hL hlx)
  obtain ⟨n, hn⟩ : ∃ n, n = nbyt (val xs) := ⟨_, rfl⟩
  have hn1 : n ≤ 8796093022208 := by omega
  have hnb : nbits (val xs) ≤ 1125899906842624 := by
    have h1 : n = (nbits (val xs) + 7) / 8 := hn
    omega
  have HN := Lib.hid hn
  rw [← hn] at hnl
  clear hn
  obtain ⟨A, ca, rfl, hca, hna, _, hra⟩ := id hL
  go_enter Try.func35, Try.ntmps35
  go_wp2_with (first
    | (go_at_call 55; refine HC.out.mono ?_; rintro e w' ⟨rfl, rfl⟩)
    | (go_at_call 48; refine (upTo_any (nbits (val xs)) n _ hnb HN.out).mono ?_; rintro e w' ⟨rfl, rfl⟩)
    | (refine wpList_make_row _ rfl _ _ 48 rfl 5 i0 (.int .u8 0) Try.underlying48 hi hz0 hz1 rfl .i64 .i64 n rfl rfl (by rw [hz2]; omega) (by omega) ?_))
  have hR0 := rowB_made w n
  have hB0 : Below w.heap.size w (w.alloc (.cells (madeCells #[.int .u8 0] n) 5)) := (Below.refl _ w).alloc (Nat.le_refl _) _
  generalize w.alloc (.cells (madeCells #[.int .u8 0] n) 5) = w1 at hR0 hB0 ⊢
  have hR1 : RowB w1 w.heap.size n (fun j => if j < 0 then byt (val xs) j else 0) := by simpa using hR0
  clear hR0
  go_loopw [13] (fun i wr => ∃ (k : Nat), k ≤ n ∧ i = .int .i64 k ∧ RowB wr w.heap.size n (fun j => if j < k then byt (val xs) j else 0) ∧ Below w.heap.size w wr)
    (fun i _ => n - (intOf i).toNat)
  case atStart => exact ⟨0, Nat.zero_le _, rfl, hR1, hB0⟩
  case round =>
    obtain ⟨k, hk, rfl, hR, hB⟩ := hrel
    by_cases hlt : k < n
    · have hd : decide (k < n) = true := by simpa using hlt
      obtain ⟨q, hq⟩ : ∃ q, q = (n - 1 - k) / 8 := ⟨_, rfl⟩
      obtain ⟨t, ht⟩ : ∃ t, t = 8 * ((n - 1 - k) % 8) := ⟨_, rfl⟩
      have hqn : q < xs.length := by omega
      have hmin : min t 64 = t := by omega
      have HQ := Lib.hid hq
      have HT := Lib.hid ht
      have hcut := cut_byte ho (i := k) (q := q) (t := t) (by rw [← HN.out]; exact hq) (by rw [← HN.out]; exact ht)
      clear hq ht
      obtain ⟨b, off, rfl, hbg, hcell⟩ := hra (by omega)
      have hck : wr.cell? ⟨b, off + q, none⟩ = some (.int .u64 ((lat xs q : Nat) : Int)) := (hB.cell (p := ⟨b, off + q, none⟩) hbg).trans (hcell q hqn)
      clear hcell hra
      have hcs := World.rowIs.cell hR (i := k) hlt
      have hfz := World.rowIs.frozen hR k
      have hx := ok_get ho q
      go_wp2_with (go_at_call 49; refine (place_any n k q t _ (by omega) hlt HQ.out HT.out).mono ?_; rintro e w' ⟨rfl, rfl⟩)
      go_roundw
      case rel => exact ⟨k + 1, by omega, by go_num, hR.lay rfl, hB.setCell (p := ⟨w.heap.size, k, none⟩) (Nat.le_refl _) _⟩
      case measure => simp [intOf]; omega
    · have hd : decide (k < n) = false := by simpa using hlt
      obtain rfl : k = n := by omega
      have hcv := row_text hR HN.out
      go_wp2
      go_ret
      exact ⟨rfl, hB⟩

end Go.Proofs.Ytilbkfgbbajelaa
