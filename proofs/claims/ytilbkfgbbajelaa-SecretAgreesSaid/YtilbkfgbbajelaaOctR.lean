/- The document's From (package lodgeref03) answers the number of bytes. Condition: at most 2^40 bytes. -/
import Derived.Test.YtilbkfgbbajelaaOctF
import Derived.Test.YtilbkfgbbajelaaRef
import Derived.BigRegion
namespace Go.Proofs.Ytilbkfgbbajelaa
open Go.RowKit Go.Shelf Num
set_option linter.unusedVariables false

set_option maxRecDepth 100000 in
set_option maxHeartbeats 4000000 in
theorem refFrom_any (s : ByteArray) (w : World) (hs : s.size ≤ 1099511627776) :
    Calls Try.prog 20 #[.string s] w (Gives (bval s.data.toList) w) := by
  obtain ⟨i0, hi, hz0, hz1, hz2⟩ := info_parts infoU
  have hsz := size_data s
  have HSZ := Lib.hid hsz
  clear hsz
  obtain ⟨n, hn⟩ : ∃ n, n = (s.size + 7) / 8 := ⟨_, rfl⟩
  have hn1 : n ≤ 1099511627776 := by omega
  have HN := Lib.hid hn
  clear hn
  go_enter Try.func20, Try.ntmps20
  have hlen : ((s.size : Int) + 7) / 8 = (n : Int) := by have := HN.out; omega
  go_wp2_with (refine wpList_make_row _ rfl _ _ 28 rfl 32 i0 (.int .u64 0) Try.underlying28 hi hz0 hz1 rfl .i64 .i64 n (congrArg (Value.int .i64) hlen) (congrArg (Value.int .i64) hlen) (by rw [hz2]; omega) (by omega) ?_)
  clear hlen
  have hR0 := row_made w n
  have hB0 : Below w.heap.size w (w.alloc (.cells (madeCells #[.int .u64 0] n) 32)) := (Below.refl _ w).alloc (Nat.le_refl _) _
  generalize w.alloc (.cells (madeCells #[.int .u64 0] n) 32) = w1 at hR0 hB0 ⊢
  rw [← lim_zero s.data.toList] at hR0
  go_loopw [4] (fun i wr => ∃ (k : Nat), k ≤ s.size ∧ i = .int .i64 k ∧ Row wr w.heap.size n (lim (come s.data.toList k)) ∧ Below w.heap.size w wr)
    (fun i _ => s.size - (intOf i).toNat)
  case atStart => exact ⟨0, Nat.zero_le _, rfl, hR0, hB0⟩
  case round =>
    obtain ⟨k, hk, rfl, hR, hB⟩ := hrel
    by_cases hlt : k < s.size
    · have hd : decide (k < s.size) = true := by simpa using hlt
      obtain ⟨q, hq⟩ : ∃ q, q = (s.size - 1 - k) / 8 := ⟨_, rfl⟩
      obtain ⟨t, ht⟩ : ∃ t, t = 8 * ((s.size - 1 - k) % 8) := ⟨_, rfl⟩
      have hqn : q < n := by have := HN.out; omega
      have HQ := Lib.hid hq
      have HT := Lib.hid ht
      clear hq ht
      have hcs := hR.cell (j := q) hqn
      have hfz := hR.frozen q
      obtain ⟨p, hp⟩ : ∃ p : Nat, p = s.size - 1 - k := ⟨_, rfl⟩
      have hp1 : (s.size : Int) - 1 - (k : Int) = (p : Int) := by omega
      have HP := Lib.hid hp
      clear hp
      go_wp2_with fail
      have hpq : (p : Int) / 8 = (q : Int) := by rw [HQ.out, ← HP.out]; omega
      have hpt : 8 * ((p : Int) % 8) = (t : Int) := by rw [HT.out, ← HP.out]; omega
      clear hp1
      have E := get_data s k hlt
      have hyy : ∃ y, y = lim (come s.data.toList k) q ||| s[k].toNat * 2 ^ t := ⟨_, rfl⟩
      obtain ⟨y, hy⟩ := hyy
      have hl : k < s.data.toList.length := by rw [← HSZ.out]; exact hlt
      have hfit := byte_fits s.data.toList k hl
      rw [← HSZ.out, ← HT.out, ← E] at hfit
      have hor := lay_byte (hR.lim q) hfit hy
      have HY := Lib.hid hy
      have HF := Lib.hid hfit
      have HE := Lib.hid E
      clear hy hfit E
      have hbl := byte_lt s[k]
      generalize hbb : s[k].toNat = b at *
      have hmin : min t 64 = t := by have := HT.out; omega
      go_region
      clear hor hcs hfz hmin
      have hy2 : y = lim (come s.data.toList k) q ||| s.data.toList[k].toNat * 2 ^ (8 * ((s.data.toList.length - 1 - k) % 8)) := by
        rw [HY.out, ← hbb, HT.out, ← HSZ.out, HE.out]
      have hR1 : Row (wr.setCell ⟨w.heap.size, q, none⟩ (.int .u64 (y : Int))).drew w.heap.size n (lim (come s.data.toList (k + 1))) := row_byte hR hl (by rw [← HSZ.out]; exact HQ.out) hy2
      have hB1 : Below w.heap.size w (wr.setCell ⟨w.heap.size, q, none⟩ (.int .u64 (y : Int))).drew := (hB.setCell (p := ⟨w.heap.size, q, none⟩) (Nat.le_refl _) _).drew
      generalize (wr.setCell ⟨w.heap.size, q, none⟩ (.int .u64 (y : Int))).drew = W2 at *
      clear hy2
      go_wp2_with fail
      go_roundw
      case rel => exact ⟨k + 1, by omega, by go_num, hR1, hB1⟩
      case measure => simp [intOf]; omega
    · have hd : decide (k < s.size) = false := by simpa using hlt
      obtain rfl : k = s.size := by omega
      have hall : come s.data.toList s.size = bval s.data.toList := by rw [HSZ.out, come_all]
      rw [hall] at hR
      clear hall
      have HV := Lib.hid (val_bytes s.data.toList n (by rw [← HSZ.out]; exact HN.out))
      have Lv := hR.whole n (Nat.le_refl _)
      go_wp2_with fail
      refine (refTrim_any _ _ _ Lv (by rw [upto_length]; omega)).mono ?_
      rintro e W2 ⟨r, rfl, hr, hb⟩
      go_wp2
      go_ret
      exact ⟨r, rfl, by rw [← HV.out]; exact hr, hB.trans (hb.mono hB.size)⟩

end Go.Proofs.Ytilbkfgbbajelaa
