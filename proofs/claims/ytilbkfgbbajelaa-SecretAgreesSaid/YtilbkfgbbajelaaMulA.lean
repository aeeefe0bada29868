/- Several texts in one: each part says what it proves, and under which conditions. -/
import Derived.Test.YtilbkfgbbajelaaMul64
import Derived.Test.YtilbkfgbbajelaaNat
/- long.addTimes adds a multiple of a number to limbs that lie in a row, and answers what is carried out. Conditions: the row has room; the number lies elsewhere; lengths below 2^40. -/
namespace Go.Proofs.Ytilbkfgbbajelaa
open Go.RowKit Go.Shelf Num
set_option linter.unusedVariables false

theorem wrap_add {a b : Nat} (h : a + b < M) : IntKind.u64.wrap ((a : Int) + (b : Int)) = ((a + b : Nat) : Int) := by
  unfold M at h
  rw [IntKind.wrap_u64]
  omega

set_option maxRecDepth 100000 in
set_option maxHeartbeats 4000000 in
theorem addTimes_any (g n o L cap : Nat) (f : Nat → Nat) (vb : Value) (bs : List Nat) (x : Nat) (w : World) (hR : Row w g n f) (hb : Off g w vb bs) (hL : bs.length ≤ L) (ho : o + L ≤ n) (hcap : L ≤ cap) (hx : x < M) (hlb : bs.length ≤ 1099511627776) (hn : n ≤ 4398046511104) :
    Calls Try.prog 84 #[.slice (some ⟨g, o, none⟩) L cap, vb, .int .u64 (x : Int)] w fun e w' => ∃ (c : Nat) (f' : Nat → Nat), e = .returned (.int .u64 (c : Int)) ∧ c < M ∧ Row w' g n f' ∧ Only g w w' ∧
      (∀ j, (j < o ∨ o + bs.length ≤ j) → f' j = f j) ∧ sm f' o bs.length + M ^ bs.length * c = sm f o bs.length + x * val bs := by
  have hob := hb.ok
  obtain ⟨A, cb, rfl, hcb, _, hr⟩ := id hb
  go_enter Try.func84, Try.ntmps84
  go_wp2
  go_loopw [7, 15] (fun c i wr => ∃ (k cc : Nat) (f' : Nat → Nat), k ≤ bs.length ∧ i = .int .i64 k ∧ c = .int .u64 (cc : Int) ∧ cc < M ∧ Row wr g n f' ∧ Only g w wr ∧
      (∀ j, (j < o ∨ o + k ≤ j) → f' j = f j) ∧ sm f' o k + M ^ k * cc = sm f o k + x * sm (lat bs) 0 k)
    (fun _ i _ => bs.length - (intOf i).toNat)
  case atStart => exact ⟨0, 0, f, Nat.zero_le _, rfl, rfl, M_pos, hR, Only.refl _ _, fun _ _ => rfl, by simp [sm]⟩
  case round =>
    obtain ⟨k, c, f', hk, rfl, rfl, hc, hR', hO, hf, he⟩ := hrel
    have HE := Lib.hid he
    have HF := Lib.hid hf
    clear he hf
    by_cases hlt : k < bs.length
    · obtain ⟨b, off, rfl, hbg, hcell⟩ := hr (by omega)
      have hck : wr.cell? ⟨b, off + k, none⟩ = some (.int .u64 ((lat bs k : Nat) : Int)) := (World.cell?_of_block (w := w) (hO.block b hbg)).trans (hcell k hlt)
      clear hcell hr
      have hcs := hR'.cell (j := o + k) (by omega)
      have hfz := hR'.frozen (o + k)
      have hd : decide (k < bs.length) = true := by simpa using hlt
      have hy := ok_get hob k
      have hs := hR'.lim (o + k)
      obtain ⟨s1, s2, s3⟩ := mul_step hx hy hs hc
      have HS := Lib.hid s3
      clear s3
      have hkL : k < L := by omega
      go_wp2_with fail
      refine (mul64_any x (lat bs k) hx hy _).mono ?_
      rintro e W1 ⟨rfl, rfl⟩
      have ha1 : ∀ w, (callFunc 44 #[.int .u64 ((mulLo x (lat bs k) : Nat) : Int), .int .u64 ((f' (o + k) : Nat) : Int), .int .u64 0]).run Try.prog w = _ := fun w => add64 (mulLo x (lat bs k)) (f' (o + k)) 0 (by omega) w
      have ha2 : ∀ w, (callFunc 44 #[.int .u64 ((addLo (mulLo x (lat bs k)) (f' (o + k)) 0 : Nat) : Int), .int .u64 (c : Int), .int .u64 0]).run Try.prog w = _ := fun w => add64 (addLo (mulLo x (lat bs k)) (f' (o + k)) 0) c 0 (by omega) w
      go_wp2_with fail
      go_roundw
      case rel =>
        refine ⟨k + 1, mulC x (lat bs k) (f' (o + k)) c, upd f' (o + k) (mulN x (lat bs k) (f' (o + k)) c), by omega, by go_num, ?_, s2, hR'.set _ (addLo_lt _ _ _), hO.set _ _, ?_, ?_⟩
        · rw [wrap_add (a := mulHi x (lat bs k)) s1]; exact congrArg (Value.int .u64) (wrap_add (a := mulC1 x (lat bs k) (f' (o + k))) s2)
        · intro j hj
          rw [upd_other _ _ (by omega)]
          exact HF.out j (by omega)
        · rw [sm_upd_last, sm_succ, sm_succ, Nat.pow_succ, ← HF.out (o + k) (by omega), Nat.zero_add]
          exact add_round HE.out HS.out
      case measure => simp [intOf]; omega
    · obtain rfl : k = bs.length := by omega
      have hd : decide (bs.length < bs.length) = false := by simp
      go_wp2
      go_ret
      exact ⟨c, f', rfl, hc, hR', hO, HF.out, by rw [val_sm bs]; exact HE.out⟩

end Go.Proofs.Ytilbkfgbbajelaa

/- long.takeTimes: takes a multiple of a number from limbs that lie in a row, and tells whether it was more. Conditions: the row has a limb more than the number; the number lies elsewhere; lengths below 2^40. -/
namespace Go.Proofs.Ytilbkfgbbajelaa
open Go.RowKit Go.Shelf Num
set_option linter.unusedVariables false

set_option maxRecDepth 100000 in
set_option maxHeartbeats 4000000 in
theorem takeTimes_any (g n o L cap : Nat) (f : Nat → Nat) (vb : Value) (bs : List Nat) (x : Nat) (w : World) (hR : Row w g n f) (hb : Off g w vb bs) (hL : bs.length < L) (ho : o + L ≤ n) (hcap : L ≤ cap) (hx : x < M) (hlb : bs.length ≤ 1099511627776) (hn : n ≤ 4398046511104) :
    Calls Try.prog 78 #[.slice (some ⟨g, o, none⟩) L cap, vb, .int .u64 (x : Int)] w fun e w' => ∃ (b : Bool) (f' : Nat → Nat), e = .returned (.bool b) ∧ Row w' g n f' ∧ Only g w w' ∧
      (∀ j, (j < o ∨ o + bs.length + 1 ≤ j) → f' j = f j) ∧ sm f' o (bs.length + 1) + x * val bs = sm f o (bs.length + 1) + M ^ (bs.length + 1) * b.toNat := by
  have hob := hb.ok
  obtain ⟨A, cb, rfl, hcb, _, hr⟩ := id hb
  go_enter Try.func78, Try.ntmps78
  go_wp2
  go_loopw [7, 16] (fun c i wr => ∃ (k cc : Nat) (f' : Nat → Nat), k ≤ bs.length ∧ i = .int .i64 k ∧ c = .int .u64 (cc : Int) ∧ cc < M ∧ Row wr g n f' ∧ Only g w wr ∧
      (∀ j, (j < o ∨ o + k ≤ j) → f' j = f j) ∧ sm f' o k + x * sm (lat bs) 0 k = sm f o k + M ^ k * cc)
    (fun _ i _ => bs.length - (intOf i).toNat)
  case atStart => exact ⟨0, 0, f, Nat.zero_le _, rfl, rfl, M_pos, hR, Only.refl _ _, fun _ _ => rfl, by simp [sm]⟩
  case round =>
    obtain ⟨k, c, f', hk, rfl, rfl, hc, hR', hO, hf, he⟩ := hrel
    have HE := Lib.hid he
    have HF := Lib.hid hf
    clear he hf
    by_cases hlt : k < bs.length
    · obtain ⟨b, off, rfl, hbg, hcell⟩ := hr (by omega)
      have hck : wr.cell? ⟨b, off + k, none⟩ = some (.int .u64 ((lat bs k : Nat) : Int)) := (World.cell?_of_block (w := w) (hO.block b hbg)).trans (hcell k hlt)
      clear hcell hr
      have hcs := hR'.cell (j := o + k) (by omega)
      have hfz := hR'.frozen (o + k)
      have hd : decide (k < bs.length) = true := by simpa using hlt
      have hy := ok_get hob k
      have hs := hR'.lim (o + k)
      have hkL : k < L := by omega
      obtain ⟨s1, s2, s3⟩ := tak_step hx hy hs hc
      have HS := Lib.hid s3
      clear s3
      go_wp2_with fail
      refine (mul64_any x (lat bs k) hx hy _).mono ?_
      rintro e W1 ⟨rfl, rfl⟩
      have ha1 : ∀ w, (callFunc 44 #[.int .u64 ((mulLo x (lat bs k) : Nat) : Int), .int .u64 (c : Int), .int .u64 0]).run Try.prog w = _ := fun w => add64 (mulLo x (lat bs k)) c 0 (by omega) w
      have ha2 : ∀ w, (callFunc 40 #[.int .u64 ((f' (o + k) : Nat) : Int), .int .u64 ((addLo (mulLo x (lat bs k)) c 0 : Nat) : Int), .int .u64 0]).run Try.prog w = _ := fun w => sub64 (f' (o + k)) (addLo (mulLo x (lat bs k)) c 0) 0 (by omega) w
      go_wp2_with fail
      go_roundw
      case rel =>
        refine ⟨k + 1, mulHi x (lat bs k) + addHi (mulLo x (lat bs k)) c 0 + subHi (f' (o + k)) (addLo (mulLo x (lat bs k)) c 0) 0, upd f' (o + k) (subLo (f' (o + k)) (addLo (mulLo x (lat bs k)) c 0) 0), by omega, by go_num, (by rw [wrap_add (a := mulHi x (lat bs k)) s1, wrap_add s2]), s2, hR'.set _ (subLo_lt _ _ _), hO.set _ _, ?_, ?_⟩
        · intro j hj
          rw [upd_other _ _ (by omega)]
          exact HF.out j (by omega)
        · rw [sm_upd_last, sm_succ, sm_succ, Nat.pow_succ, ← HF.out (o + k) (by omega), Nat.zero_add]
          exact tak_round HE.out HS.out
      case measure => simp [intOf]; omega
    · obtain rfl : k = bs.length := by omega
      have hd : decide (bs.length < bs.length) = false := by simp
      have hcs := hR'.cell (j := o + bs.length) (by omega)
      have hfz := hR'.frozen (o + bs.length)
      have hs := hR'.lim (o + bs.length)
      have ha2 : ∀ w, (callFunc 40 #[.int .u64 ((f' (o + bs.length) : Nat) : Int), .int .u64 (c : Int), .int .u64 0]).run Try.prog w = _ := fun w => sub64 (f' (o + bs.length)) c 0 (by omega) w
      have hsp := sub_split hs hc (Nat.zero_le 1)
      have hle := subHi_le (f' (o + bs.length)) c 0
      have fin : ∀ b : Nat, subHi (f' (o + bs.length)) c 0 = b → sm (upd f' (o + bs.length) (subLo (f' (o + bs.length)) c 0)) o (bs.length + 1) + x * val bs = sm f o (bs.length + 1) + M ^ (bs.length + 1) * b := by
        rintro b rfl
        rw [sm_upd_last, sm_succ, val_sm bs, Nat.pow_succ, ← HF.out (o + bs.length) (by omega)]
        exact tak_last HE.out hsp
      have HFI := Lib.hid fin
      clear hsp fin
      rcases Nat.lt_or_ge 0 (subHi (f' (o + bs.length)) c 0) with h1 | h1
      · have hq : (((subHi (f' (o + bs.length)) c 0 : Nat) : Int) != 0) = true := by simp; omega
        have H1 := Lib.hid (show subHi (f' (o + bs.length)) c 0 = 1 by omega)
        clear h1 hle
        go_wp2
        go_ret
        exact ⟨true, _, rfl, hR'.set _ (subLo_lt _ _ _), hO.set _ _, fun j hj => by rw [upd_other _ _ (by omega)]; exact HF.out j (by omega), HFI.out 1 H1.out⟩
      · have hq : (((subHi (f' (o + bs.length)) c 0 : Nat) : Int) != 0) = false := by simp; omega
        have H1 := Lib.hid (show subHi (f' (o + bs.length)) c 0 = 0 by omega)
        clear h1 hle
        go_wp2
        go_ret
        exact ⟨false, _, rfl, hR'.set _ (subLo_lt _ _ _), hO.set _ _, fun j hj => by rw [upd_other _ _ (by omega)]; exact HF.out j (by omega), HFI.out 0 H1.out⟩

end Go.Proofs.Ytilbkfgbbajelaa

/- long.putBack: adds a number to limbs that lie in a row, and tells whether something is carried out. Conditions: the row has a limb more than the number; the number lies elsewhere; lengths below 2^40. -/
namespace Go.Proofs.Ytilbkfgbbajelaa
open Go.RowKit Go.Shelf Num
set_option linter.unusedVariables false

set_option maxRecDepth 100000 in
set_option maxHeartbeats 4000000 in
theorem putBack_any (g n o L cap : Nat) (f : Nat → Nat) (vb : Value) (bs : List Nat) (w : World) (hR : Row w g n f) (hb : Off g w vb bs) (hL : bs.length < L) (ho : o + L ≤ n) (hcap : L ≤ cap) (hlb : bs.length ≤ 1099511627776) (hn : n ≤ 4398046511104) :
    Calls Try.prog 79 #[.slice (some ⟨g, o, none⟩) L cap, vb] w fun e w' => ∃ (b : Bool) (f' : Nat → Nat), e = .returned (.bool b) ∧ Row w' g n f' ∧ Only g w w' ∧
      (∀ j, (j < o ∨ o + bs.length + 1 ≤ j) → f' j = f j) ∧ sm f' o (bs.length + 1) + M ^ (bs.length + 1) * b.toNat = sm f o (bs.length + 1) + val bs := by
  have hob := hb.ok
  obtain ⟨A, cb, rfl, hcb, _, hr⟩ := id hb
  go_enter Try.func79, Try.ntmps79
  go_wp2
  go_loopw [5, 10] (fun c i wr => ∃ (k cc : Nat) (f' : Nat → Nat), k ≤ bs.length ∧ i = .int .i64 k ∧ c = .int .u64 (cc : Int) ∧ cc ≤ 1 ∧ Row wr g n f' ∧ Only g w wr ∧
      (∀ j, (j < o ∨ o + k ≤ j) → f' j = f j) ∧ sm f' o k + M ^ k * cc = sm f o k + sm (lat bs) 0 k)
    (fun _ i _ => bs.length - (intOf i).toNat)
  case atStart => exact ⟨0, 0, f, Nat.zero_le _, rfl, rfl, Nat.zero_le _, hR, Only.refl _ _, fun _ _ => rfl, by simp [sm]⟩
  case round =>
    obtain ⟨k, c, f', hk, rfl, rfl, hc, hR', hO, hf, he⟩ := hrel
    have HE := Lib.hid he
    have HF := Lib.hid hf
    clear he hf
    by_cases hlt : k < bs.length
    · obtain ⟨b, off, rfl, hbg, hcell⟩ := hr (by omega)
      have hck : wr.cell? ⟨b, off + k, none⟩ = some (.int .u64 ((lat bs k : Nat) : Int)) := (World.cell?_of_block (w := w) (hO.block b hbg)).trans (hcell k hlt)
      clear hcell hr
      have hcs := hR'.cell (j := o + k) (by omega)
      have hfz := hR'.frozen (o + k)
      have hd : decide (k < bs.length) = true := by simpa using hlt
      have hy := ok_get hob k
      have hs := hR'.lim (o + k)
      have hkL : k < L := by omega
      have s1 := addHi_le hs hy hc
      have s3 := add_split (f' (o + k)) (lat bs k) c
      have HS := Lib.hid s3
      clear s3
      have ha1 : ∀ w, (callFunc 44 #[.int .u64 ((f' (o + k) : Nat) : Int), .int .u64 ((lat bs k : Nat) : Int), .int .u64 (c : Int)]).run Try.prog w = _ := fun w => add64 (f' (o + k)) (lat bs k) c hc w
      go_wp2_with fail
      go_roundw
      case rel =>
        refine ⟨k + 1, addHi (f' (o + k)) (lat bs k) c, upd f' (o + k) (addLo (f' (o + k)) (lat bs k) c), by omega, by go_num, rfl, s1, hR'.set _ (addLo_lt _ _ _), hO.set _ _, ?_, ?_⟩
        · intro j hj
          rw [upd_other _ _ (by omega)]
          exact HF.out j (by omega)
        · rw [sm_upd_last, sm_succ, sm_succ, Nat.pow_succ, ← HF.out (o + k) (by omega), Nat.zero_add]
          exact put_round HE.out HS.out
      case measure => simp [intOf]; omega
    · obtain rfl : k = bs.length := by omega
      have hd : decide (bs.length < bs.length) = false := by simp
      have hcs := hR'.cell (j := o + bs.length) (by omega)
      have hfz := hR'.frozen (o + bs.length)
      have hs := hR'.lim (o + bs.length)
      have ha2 : ∀ w, (callFunc 44 #[.int .u64 ((f' (o + bs.length) : Nat) : Int), .int .u64 0, .int .u64 (c : Int)]).run Try.prog w = _ := fun w => add64 (f' (o + bs.length)) 0 c hc w
      have hsp := add_split (f' (o + bs.length)) 0 c
      have hle := addHi_le hs M_pos hc
      have fin : ∀ b : Nat, addHi (f' (o + bs.length)) 0 c = b → sm (upd f' (o + bs.length) (addLo (f' (o + bs.length)) 0 c)) o (bs.length + 1) + M ^ (bs.length + 1) * b = sm f o (bs.length + 1) + val bs := by
        rintro b rfl
        rw [sm_upd_last, sm_succ, val_sm bs, Nat.pow_succ, ← HF.out (o + bs.length) (by omega)]
        exact put_last HE.out hsp
      have HFI := Lib.hid fin
      clear hsp fin
      rcases Nat.lt_or_ge 0 (addHi (f' (o + bs.length)) 0 c) with h1 | h1
      · have hq : (((addHi (f' (o + bs.length)) 0 c : Nat) : Int) != 0) = true := by simp; omega
        have H1 := Lib.hid (show addHi (f' (o + bs.length)) 0 c = 1 by omega)
        clear h1 hle
        go_wp2
        go_ret
        exact ⟨true, _, rfl, hR'.set _ (addLo_lt _ _ _), hO.set _ _, fun j hj => by rw [upd_other _ _ (by omega)]; exact HF.out j (by omega), HFI.out 1 H1.out⟩
      · have hq : (((addHi (f' (o + bs.length)) 0 c : Nat) : Int) != 0) = false := by simp; omega
        have H1 := Lib.hid (show addHi (f' (o + bs.length)) 0 c = 0 by omega)
        clear h1 hle
        go_wp2
        go_ret
        exact ⟨false, _, rfl, hR'.set _ (addLo_lt _ _ _), hO.set _ _, fun j hj => by rw [upd_other _ _ (by omega)]; exact HF.out j (by omega), HFI.out 0 H1.out⟩

end Go.Proofs.Ytilbkfgbbajelaa

/- long.Mul answers the product. Conditions: both slices read as limbs; lengths below 2^40. -/
namespace Go.Proofs.Ytilbkfgbbajelaa
open Go.RowKit Go.Shelf Num
set_option linter.unusedVariables false

set_option maxRecDepth 100000 in
set_option maxHeartbeats 4000000 in
theorem mul_any (v u : Value) (xs ys : List Nat) (w : World) (hLa : Lim w.heap.size w v xs) (hLb : Lim w.heap.size w u ys) (hlx : xs.length ≤ 549755813888) (hly : ys.length ≤ 549755813888) :
    Calls Try.prog 75 #[v, u] w (Gives (val xs * val ys) w) := by
  obtain ⟨i0, hi, hz0, hz1, hz2⟩ := info_parts infoU
  have hox := hLa.ok
  have hoy := hLb.ok
  obtain ⟨A, ca, rfl, hca, hna, _, hra⟩ := id hLa
  obtain ⟨B, cb, rfl, hcb, hnb, _, hrb⟩ := id hLb
  go_enter Try.func75, Try.ntmps75
  go_wp2_with (refine wpList_make_row _ rfl _ _ 28 rfl 32 i0 (.int .u64 0) Try.underlying28 hi hz0 hz1 rfl .i64 .i64 (xs.length + ys.length) rfl rfl (by rw [hz2]; omega) (by omega) ?_)
  have hR0 := row_made w (xs.length + ys.length)
  have hB0 : Below w.heap.size w (w.alloc (.cells (madeCells #[.int .u64 0] (xs.length + ys.length)) 32)) := (Below.refl _ w).alloc (Nat.le_refl _) _
  generalize w.alloc (.cells (madeCells #[.int .u64 0] (xs.length + ys.length)) 32) = w1 at hR0 hB0 ⊢
  go_loopw [16] (fun i wr => ∃ (k : Nat) (f : Nat → Nat), k ≤ xs.length ∧ i = .int .i64 k ∧ Row wr w.heap.size (xs.length + ys.length) f ∧ Below w.heap.size w wr ∧
      (∀ j, k + ys.length ≤ j → f j = 0) ∧ sm f 0 (k + ys.length) = sm (lat xs) 0 k * val ys)
    (fun i _ => xs.length - (intOf i).toNat)
  case atStart => exact ⟨0, fun _ => 0, Nat.zero_le _, rfl, hR0, hB0, fun _ _ => rfl, by rw [sm_nought (fun _ _ => rfl), sm_zero, Nat.zero_mul]⟩
  case round =>
    obtain ⟨k, f, hk, rfl, hR, hB, hz, he⟩ := hrel
    have HE := Lib.hid he
    have HZ := Lib.hid hz
    clear he hz
    by_cases hlt : k < xs.length
    · obtain ⟨b, off, rfl, hbg, hcell⟩ := hra (by omega)
      have hck : wr.cell? ⟨b, off + k, none⟩ = some (.int .u64 ((lat xs k : Nat) : Int)) := (hB.cell (p := ⟨b, off + k, none⟩) hbg).trans (hcell k hlt)
      clear hcell hra
      have hd : decide (k < xs.length) = true := by simpa using hlt
      have hx := ok_get hox k
      have hc1 : k ≤ xs.length + ys.length := by omega
      have hc2 : (k : Int) ≤ ((xs.length + ys.length : Nat) : Int) := by omega
      have hc3 : (k : Int) ≤ (xs.length : Int) + (ys.length : Int) := by omega
      go_wp2_with fail
      refine (addTimes_any w.heap.size (xs.length + ys.length) k (xs.length + ys.length - k) (xs.length + ys.length - k) f _ ys (lat xs k) wr hR ((hLb.below hB).off (Nat.le_refl _)) (by omega) (by omega) (Nat.le_refl _) hx (by omega) (by omega)).mono ?_
      rintro e W1 ⟨c, f', rfl, hcM, hR1, hO1, hf1, he1⟩
      have HE1 := Lib.hid he1
      have HF1 := Lib.hid hf1
      clear he1 hf1
      have hcs := hR1.cell (j := k + ys.length) (by omega)
      have hfz := hR1.frozen (k + ys.length)
      have hi1 : k + ys.length < xs.length + ys.length := by omega
      have hi2 : (k : Int) + (ys.length : Int) < (xs.length : Int) + (ys.length : Int) := by omega
      have hi3 : ((k + ys.length : Nat) : Int) < ((xs.length + ys.length : Nat) : Int) := by omega
      have hB1 : Below w.heap.size w W1 := hB.trans (hO1.below (Nat.le_refl _))
      go_wp2_with fail
      go_roundw
      case rel =>
        refine ⟨k + 1, upd f' (k + ys.length) c, by omega, by go_num, hR1.set _ hcM, hB1.setCell (p := ⟨w.heap.size, k + ys.length, none⟩) (Nat.le_refl _) _, ?_, ?_⟩
        · intro j hj
          rw [upd_other _ _ (by omega), HF1.out j (by omega)]
          exact HZ.out j (by omega)
        · rw [sm_succ, Nat.zero_add]
          exact mul_outer (fun j hj => HF1.out j (.inl hj)) HE1.out HE.out
      case measure => simp [intOf]; omega
    · obtain rfl : k = xs.length := by omega
      have hd : decide (xs.length < xs.length) = false := by simp
      have hW := hR.whole (xs.length + ys.length) (Nat.le_refl _)
      go_wp2_with fail
      refine (trim_any _ _ _ hW (by rw [upto_length]; omega)).mono ?_
      rintro e W1 ⟨r, rfl, hLr, hBr⟩
      go_wp2
      go_ret
      refine ⟨r, rfl, ?_, hB.trans (hBr.mono hB.size)⟩
      have e : val (upto f (xs.length + ys.length)) = val xs * val ys := by rw [val_upto_sm, HE.out, ← val_sm]
      rw [← e]
      exact hLr

end Go.Proofs.Ytilbkfgbbajelaa
