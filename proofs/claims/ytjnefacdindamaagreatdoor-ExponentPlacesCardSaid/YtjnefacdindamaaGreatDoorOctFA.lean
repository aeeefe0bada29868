/- Several texts in one: each part says what it proves, and under which conditions. -/
import Derived.Test.YtjnefacdindamaaGreatDoorMulA
import Derived.Test.YtjnefacdindamaaGreatDoorNumA
import Derived.Lib.Strings
import Derived.Laws.Bits64b
import Derived.Test.YtjnefacdindamaaGreatDoorRefA
import Derived.BigRegion

/- The small functions of package octet: upTo, place, Whole; the document's Whole. Conditions: numbers below 2^50. -/
namespace Go.Proofs.YtjnefacdindamaaGreatDoor
open Go.RowKit Go.Shelf Num
set_option linter.unusedVariables false
set_option maxRecDepth 100000

theorem ret_pair {a b c d : Int} (h : a = c) (g : b = d) : Ending.returned (.tuple #[.int .i64 a, .int .i64 b]) = .returned (.tuple #[.int .i64 c, .int .i64 d]) := by rw [h, g]

set_option maxHeartbeats 400000 in
theorem upTo_any (c m : Nat) (w : World) (hc : c ≤ 1125899906842624) (hm : m = (c + 7) / 8) :
    Calls Tryz.prog 91 #[.int .i64 (c : Int), .int .i64 8] w fun e w' => e = .returned (.int .i64 (m : Int)) ∧ w = w' := by
  have HM := Lib.hid hm
  clear hm
  go_enter Tryz.func91, Tryz.ntmps91
  go_wp2
  go_ret
  exact ⟨ret_int (by rw [HM.out]; omega), rfl⟩

set_option maxHeartbeats 400000 in
theorem place_any (L i q t : Nat) (w : World) (hL : L ≤ 1125899906842624) (hi : i < L) (hq : q = (L - 1 - i) / 8) (ht : t = 8 * ((L - 1 - i) % 8)) :
    Calls Tryz.prog 92 #[.int .i64 (L : Int), .int .i64 (i : Int)] w fun e w' => e = .returned (.tuple #[.int .i64 (q : Int), .int .i64 (t : Int)]) ∧ w = w' := by
  have HQ := Lib.hid hq
  have HT := Lib.hid ht
  clear hq ht
  go_enter Tryz.func92, Tryz.ntmps92
  go_wp2
  go_ret2
  exact ⟨ret_pair (by rw [HQ.out]; omega) (by rw [HT.out]; omega), rfl⟩

theorem whole_data (s : ByteArray) (h : s.data.toList = []) : s = ⟨#[]⟩ := by
  rw [← Lib.mk_data s, h]
theorem size_data (s : ByteArray) : s.size = s.data.toList.length := Lib.size_eq s
theorem get_data (s : ByteArray) (k : Nat) (h : k < s.size) : s[k] = s.data.toList[k]'(by rw [← size_data]; exact h) := by
  rw [Array.getElem_toList]
  rfl
theorem byte_ne (b : UInt8) : (((b.toNat : Nat) : Int) != 0) = (b != 0) := by
  by_cases h : b = 0
  · subst h; rfl
  · have : b.toNat ≠ 0 := fun e => h (by apply UInt8.toNat_inj.1; rw [e]; rfl)
    have h1 : (b != 0) = true := by simpa using h
    rw [h1]
    simpa using this
theorem ret_bool {a b : Bool} (h : a = b) : Ending.returned (.bool a) = .returned (.bool b) := by rw [h]


set_option maxHeartbeats 400000 in
theorem refWhole_any (s : ByteArray) (w : World) :
    Calls Tryz.prog 41 #[.string s] w fun e w' => e = .returned (.bool (whole s.data.toList)) ∧ w = w' := by
  cases h : s.data.toList with
  | nil =>
    obtain rfl := whole_data s h
    go_enter Tryz.func41, Tryz.ntmps41
    go_wp2
    go_ret
    exact ⟨rfl, rfl⟩
  | cons b t =>
    have hl : s.toList = b :: t := by rw [Lib.toList_data, h]
    have hne : (s.toList == (ByteArray.mk #[]).toList) = false := by rw [hl, Lib.toList_data]; rfl
    have hsz : s.size = t.length + 1 := by rw [size_data, h]; rfl
    go_enter Tryz.func41, Tryz.ntmps41
    go_wp2
    go_ret
    refine ⟨ret_bool ?_, rfl⟩
    have e : s[0]'(by omega) = b := by rw [get_data]; simp [h]
    rw [e, byte_ne]
    rfl

end Go.Proofs.YtjnefacdindamaaGreatDoor


/- octet.From answers the number of bytes. Condition: at most 2^40 bytes. -/
namespace Go.Proofs.YtjnefacdindamaaGreatDoor
open Go.RowKit Go.Shelf Num
set_option linter.unusedVariables false
set_option maxRecDepth 100000

theorem lay_byte {x b t y : Nat} (hx : x < M) (hb : b * 2 ^ t < M) (hy : y = x ||| b * 2 ^ t) : bits BinOp.or IntKind.u64 (x : Int) (IntKind.u64.wrap ((b : Int) * 2 ^ t)) = ((y : Nat) : Int) := by
  have e : (b : Int) * 2 ^ t = ((b * 2 ^ t : Nat) : Int) := by rw [Int.natCast_mul, Int.natCast_pow]; rfl
  have e2 : IntKind.u64.wrap ((b : Int) * 2 ^ t) = ((b * 2 ^ t : Nat) : Int) := by
    rw [e, IntKind.wrap_u64]
    unfold M at hb
    omega
  rw [e2, bits_or_u64_nat _ _ hx hb, hy]

/-- The row when one byte more has come. -/
theorem row_byte {w : World} {g n k q y : Nat} {l : List UInt8} (h : Row w g n (lim (come l k))) (hk : k < l.length) (hq : q = (l.length - 1 - k) / 8) (hy : y = lim (come l k) q ||| l[k].toNat * 2 ^ (8 * ((l.length - 1 - k) % 8))) :
    Row (w.setCell ⟨g, q, none⟩ (.int .u64 (y : Int))) g n (lim (come l (k + 1))) := by
  have hb := byte_lt l[k]
  have e0 := lim_here (bval (l.take k)) l[k].toNat (l.length - 1 - k) hb
  rw [← come_behind l k hk, ← come_before l k hk, ← hq] at e0
  have hyl : y = lim (come l (k + 1)) q := by rw [hy, e0.1]
  refine (h.set q (by rw [hyl]; exact lim_lt _ _)).congr (fun j => lim_lt _ _) fun j hj => ?_
  by_cases hjq : j = q
  · subst hjq
    rw [upd_same, hyl]
  · rw [upd_other _ _ hjq, come_before l k hk, come_behind l k hk]
    exact (lim_other _ _ _ _ hb (by omega)).symm
theorem byte_fits (l : List UInt8) (k : Nat) (hk : k < l.length) : l[k].toNat * 2 ^ (8 * ((l.length - 1 - k) % 8)) < M := (lim_here (bval (l.take k)) l[k].toNat (l.length - 1 - k) (byte_lt _)).2
theorem lim_zero (l : List UInt8) : lim (come l 0) = fun _ => 0 := by
  funext j
  rw [come_zero]
  simp [lim]
theorem val_bytes (l : List UInt8) (n : Nat) (hn : n = (l.length + 7) / 8) : val (upto (lim (bval l)) n) = bval l := by
  rw [val_upto_sm, sm_lim]
  apply Nat.mod_eq_of_lt
  rw [M_pow_256]
  exact Nat.lt_of_lt_of_le (bval_lt l) (Nat.pow_le_pow_right (by omega) (by omega))

set_option maxRecDepth 100000 in
set_option maxHeartbeats 4000000 in
theorem from_any (s : ByteArray) (w : World) (hs : s.size ≤ 1099511627776) :
    Calls Tryz.prog 72 #[.string s] w (Gives (bval s.data.toList) w) := by
  obtain ⟨i0, hi, hz0, hz1, hz2⟩ := info_parts infoU
  have hsz := size_data s
  have HSZ := Lib.hid hsz
  clear hsz
  obtain ⟨n, hn⟩ : ∃ n, n = (s.size + 7) / 8 := ⟨_, rfl⟩
  have hn1 : n ≤ 1099511627776 := by omega
  have HN := Lib.hid hn
  clear hn
  go_enter Tryz.func72, Tryz.ntmps72
  go_wp2_with (first
    | (go_at_call 91; refine (upTo_any s.size n _ (by omega) HN.out).mono ?_; rintro e w' ⟨rfl, rfl⟩)
    | (refine wpList_make_row _ rfl _ _ 69 rfl 74 i0 (.int .u64 0) Tryz.underlying69 hi hz0 hz1 rfl .i64 .i64 n rfl rfl (by rw [hz2]; omega) (by omega) ?_))
  have hR0 := row_made w n
  have hB0 : Below w.heap.size w (w.alloc (.cells (madeCells #[.int .u64 0] n) 74)) := (Below.refl _ w).alloc (Nat.le_refl _) _
  generalize w.alloc (.cells (madeCells #[.int .u64 0] n) 74) = w1 at hR0 hB0 ⊢
  rw [← lim_zero s.data.toList] at hR0
  go_loopw [13] (fun i wr => ∃ (k : Nat), k ≤ s.size ∧ i = .int .i64 k ∧ Row wr w.heap.size n (lim (come s.data.toList k)) ∧ Below w.heap.size w wr)
    (fun i _ => s.size - (intOf i).toNat)
  case atStart => exact ⟨0, Nat.zero_le _, rfl, hR0, hB0⟩
  case round =>
    obtain ⟨k, hk, rfl, hR, hB⟩ := hrel
    by_cases hlt : k < s.size
    · have hd : decide (k < s.size) = true := by simpa using hlt
      obtain ⟨q, hq⟩ : ∃ q, q = (s.size - 1 - k) / 8 := ⟨_, rfl⟩
      obtain ⟨t, ht⟩ : ∃ t, t = 8 * ((s.size - 1 - k) % 8) := ⟨_, rfl⟩
      have hqn : q < n := by have := HN.out; omega
      have HQ := Lib.hid hq
      have HT := Lib.hid ht
      clear hq ht
      have hcs := hR.cell (j := q) hqn
      have hfz := hR.frozen q
      go_wp2_with (go_at_call 92; refine (place_any s.size k q t _ (by omega) hlt HQ.out HT.out).mono ?_; rintro e w' ⟨rfl, rfl⟩)
      have E := get_data s k hlt
      have hyy : ∃ y, y = lim (come s.data.toList k) q ||| s[k].toNat * 2 ^ t := ⟨_, rfl⟩
      obtain ⟨y, hy⟩ := hyy
      have hl : k < s.data.toList.length := by rw [← HSZ.out]; exact hlt
      have hfit := byte_fits s.data.toList k hl
      rw [← HSZ.out, ← HT.out, ← E] at hfit
      have hor := lay_byte (hR.lim q) hfit hy
      have HY := Lib.hid hy
      have HF := Lib.hid hfit
      have HE := Lib.hid E
      clear hy hfit E
      have hbl := byte_lt s[k]
      generalize hbb : s[k].toNat = b at *
      have hmin : min t 64 = t := by have := HT.out; omega
      go_region
      clear hor hcs hfz hmin
      have hy2 : y = lim (come s.data.toList k) q ||| s.data.toList[k].toNat * 2 ^ (8 * ((s.data.toList.length - 1 - k) % 8)) := by
        rw [HY.out, ← hbb, HT.out, ← HSZ.out, HE.out]
      have hR1 : Row (wr.setCell ⟨w.heap.size, q, none⟩ (.int .u64 (y : Int))).drew w.heap.size n (lim (come s.data.toList (k + 1))) := row_byte hR hl (by rw [← HSZ.out]; exact HQ.out) hy2
      have hB1 : Below w.heap.size w (wr.setCell ⟨w.heap.size, q, none⟩ (.int .u64 (y : Int))).drew := (hB.setCell (p := ⟨w.heap.size, q, none⟩) (Nat.le_refl _) _).drew
      generalize (wr.setCell ⟨w.heap.size, q, none⟩ (.int .u64 (y : Int))).drew = W2 at *
      clear hy2
      go_wp2_with fail
      go_roundw
      case rel => exact ⟨k + 1, by omega, by go_num, hR1, hB1⟩
      case measure => simp [intOf]; omega
    · have hd : decide (k < s.size) = false := by simpa using hlt
      obtain rfl : k = s.size := by omega
      have hall : come s.data.toList s.size = bval s.data.toList := by rw [HSZ.out, come_all]
      rw [hall] at hR
      clear hall
      have HV := Lib.hid (val_bytes s.data.toList n (by rw [← HSZ.out]; exact HN.out))
      have Lv := hR.whole n (Nat.le_refl _)
      go_wp2_with fail
      refine (trim_any _ _ _ Lv (by rw [upto_length]; exact hn1)).mono ?_
      rintro e W2 ⟨r, rfl, hr, hb⟩
      go_wp2
      go_ret
      exact ⟨r, rfl, by rw [← HV.out]; exact hr, hB.trans (hb.mono hB.size)⟩

end Go.Proofs.YtjnefacdindamaaGreatDoor


/- The document's From (package lodgeref03) answers the number of bytes. Condition: at most 2^40 bytes. -/
namespace Go.Proofs.YtjnefacdindamaaGreatDoor
open Go.RowKit Go.Shelf Num
set_option linter.unusedVariables false
set_option maxRecDepth 100000

set_option maxRecDepth 100000 in
set_option maxHeartbeats 4000000 in
theorem refFrom_any (s : ByteArray) (w : World) (hs : s.size ≤ 1099511627776) :
    Calls Tryz.prog 39 #[.string s] w (Gives (bval s.data.toList) w) := by
  obtain ⟨i0, hi, hz0, hz1, hz2⟩ := info_parts infoU
  have hsz := size_data s
  have HSZ := Lib.hid hsz
  clear hsz
  obtain ⟨n, hn⟩ : ∃ n, n = (s.size + 7) / 8 := ⟨_, rfl⟩
  have hn1 : n ≤ 1099511627776 := by omega
  have HN := Lib.hid hn
  clear hn
  go_enter Tryz.func39, Tryz.ntmps39
  have hlen : ((s.size : Int) + 7) / 8 = (n : Int) := by have := HN.out; omega
  go_wp2_with (refine wpList_make_row _ rfl _ _ 69 rfl 74 i0 (.int .u64 0) Tryz.underlying69 hi hz0 hz1 rfl .i64 .i64 n (congrArg (Value.int .i64) hlen) (congrArg (Value.int .i64) hlen) (by rw [hz2]; omega) (by omega) ?_)
  clear hlen
  have hR0 := row_made w n
  have hB0 : Below w.heap.size w (w.alloc (.cells (madeCells #[.int .u64 0] n) 74)) := (Below.refl _ w).alloc (Nat.le_refl _) _
  generalize w.alloc (.cells (madeCells #[.int .u64 0] n) 74) = w1 at hR0 hB0 ⊢
  rw [← lim_zero s.data.toList] at hR0
  go_loopw [4] (fun i wr => ∃ (k : Nat), k ≤ s.size ∧ i = .int .i64 k ∧ Row wr w.heap.size n (lim (come s.data.toList k)) ∧ Below w.heap.size w wr)
    (fun i _ => s.size - (intOf i).toNat)
  case atStart => exact ⟨0, Nat.zero_le _, rfl, hR0, hB0⟩
  case round =>
    obtain ⟨k, hk, rfl, hR, hB⟩ := hrel
    by_cases hlt : k < s.size
    · have hd : decide (k < s.size) = true := by simpa using hlt
      obtain ⟨q, hq⟩ : ∃ q, q = (s.size - 1 - k) / 8 := ⟨_, rfl⟩
      obtain ⟨t, ht⟩ : ∃ t, t = 8 * ((s.size - 1 - k) % 8) := ⟨_, rfl⟩
      have hqn : q < n := by have := HN.out; omega
      have HQ := Lib.hid hq
      have HT := Lib.hid ht
      clear hq ht
      have hcs := hR.cell (j := q) hqn
      have hfz := hR.frozen q
      obtain ⟨p, hp⟩ : ∃ p : Nat, p = s.size - 1 - k := ⟨_, rfl⟩
      have hp1 : (s.size : Int) - 1 - (k : Int) = (p : Int) := by omega
      have HP := Lib.hid hp
      clear hp
      go_wp2_with fail
      have hpq : (p : Int) / 8 = (q : Int) := by rw [HQ.out, ← HP.out]; omega
      have hpt : 8 * ((p : Int) % 8) = (t : Int) := by rw [HT.out, ← HP.out]; omega
      clear hp1
      have E := get_data s k hlt
      have hyy : ∃ y, y = lim (come s.data.toList k) q ||| s[k].toNat * 2 ^ t := ⟨_, rfl⟩
      obtain ⟨y, hy⟩ := hyy
      have hl : k < s.data.toList.length := by rw [← HSZ.out]; exact hlt
      have hfit := byte_fits s.data.toList k hl
      rw [← HSZ.out, ← HT.out, ← E] at hfit
      have hor := lay_byte (hR.lim q) hfit hy
      have HY := Lib.hid hy
      have HF := Lib.hid hfit
      have HE := Lib.hid E
      clear hy hfit E
      have hbl := byte_lt s[k]
      generalize hbb : s[k].toNat = b at *
      have hmin : min t 64 = t := by have := HT.out; omega
      go_region
      clear hor hcs hfz hmin
      have hy2 : y = lim (come s.data.toList k) q ||| s.data.toList[k].toNat * 2 ^ (8 * ((s.data.toList.length - 1 - k) % 8)) := by
        rw [HY.out, ← hbb, HT.out, ← HSZ.out, HE.out]
      have hR1 : Row (wr.setCell ⟨w.heap.size, q, none⟩ (.int .u64 (y : Int))).drew w.heap.size n (lim (come s.data.toList (k + 1))) := row_byte hR hl (by rw [← HSZ.out]; exact HQ.out) hy2
      have hB1 : Below w.heap.size w (wr.setCell ⟨w.heap.size, q, none⟩ (.int .u64 (y : Int))).drew := (hB.setCell (p := ⟨w.heap.size, q, none⟩) (Nat.le_refl _) _).drew
      generalize (wr.setCell ⟨w.heap.size, q, none⟩ (.int .u64 (y : Int))).drew = W2 at *
      clear hy2
      go_wp2_with fail
      go_roundw
      case rel => exact ⟨k + 1, by omega, by go_num, hR1, hB1⟩
      case measure => simp [intOf]; omega
    · have hd : decide (k < s.size) = false := by simpa using hlt
      obtain rfl : k = s.size := by omega
      have hall : come s.data.toList s.size = bval s.data.toList := by rw [HSZ.out, come_all]
      rw [hall] at hR
      clear hall
      have HV := Lib.hid (val_bytes s.data.toList n (by rw [← HSZ.out]; exact HN.out))
      have Lv := hR.whole n (Nat.le_refl _)
      go_wp2_with fail
      refine (refTrim_any _ _ _ Lv (by rw [upto_length]; omega)).mono ?_
      rintro e W2 ⟨r, rfl, hr, hb⟩
      go_wp2
      go_ret
      exact ⟨r, rfl, by rw [← HV.out]; exact hr, hB.trans (hb.mono hB.size)⟩

end Go.Proofs.YtjnefacdindamaaGreatDoor
