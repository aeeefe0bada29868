/- modulus.addTimes adds a multiple of a number to limbs that lie in a row; modulus.takeOff takes a number from them; modulus.inverseOf finds an odd limb's inverse. Conditions: the row has room; the number lies elsewhere; lengths below 2^40; the limb is odd. -/
import Derived.Test.YtilbkfgbbajelaaMulA
import Derived.Test.YtilbkfgbbajelaaNumA
namespace Go.Proofs.Ytilbkfgbbajelaa
open Go.RowKit Go.Shelf Num
set_option linter.unusedVariables false

set_option maxRecDepth 100000 in
set_option maxHeartbeats 4000000 in
theorem maddTimes_any (g n o L cap : Nat) (f : Nat → Nat) (vb : Value) (bs : List Nat) (x : Nat) (w : World) (hR : Row w g n f) (hb : Off g w vb bs) (hL : bs.length ≤ L) (ho : o + L ≤ n) (hcap : L ≤ cap) (hx : x < M) (hlb : bs.length ≤ 1099511627776) (hn : n ≤ 4398046511104) :
    Calls Try.prog 87 #[.slice (some ⟨g, o, none⟩) L cap, vb, .int .u64 (x : Int)] w fun e w' => ∃ (c : Nat) (f' : Nat → Nat), e = .returned (.int .u64 (c : Int)) ∧ c < M ∧ Row w' g n f' ∧ Only g w w' ∧
      (∀ j, (j < o ∨ o + bs.length ≤ j) → f' j = f j) ∧ sm f' o bs.length + M ^ bs.length * c = sm f o bs.length + x * val bs := by
  have hob := hb.ok
  obtain ⟨A, cb, rfl, hcb, _, hr⟩ := id hb
  go_enter Try.func87, Try.ntmps87
  go_wp2
  go_loopw [7, 15] (fun c i wr => ∃ (k cc : Nat) (f' : Nat → Nat), k ≤ bs.length ∧ i = .int .i64 k ∧ c = .int .u64 (cc : Int) ∧ cc < M ∧ Row wr g n f' ∧ Only g w wr ∧
      (∀ j, (j < o ∨ o + k ≤ j) → f' j = f j) ∧ sm f' o k + M ^ k * cc = sm f o k + x * sm (lat bs) 0 k)
    (fun _ i _ => bs.length - (intOf i).toNat)
  case atStart => exact ⟨0, 0, f, Nat.zero_le _, rfl, rfl, M_pos, hR, Only.refl _ _, fun _ _ => rfl, by simp [sm]⟩
  case round =>
    obtain ⟨k, c, f', hk, rfl, rfl, hc, hR', hO, hf, he⟩ := hrel
    have HE := Lib.hid he
    have HF := Lib.hid hf
    clear he hf
    by_cases hlt : k < bs.length
    · obtain ⟨b, off, rfl, hbg, hcell⟩ := hr (by omega)
      have hck : wr.cell? ⟨b, off + k, none⟩ = some (.int .u64 ((lat bs k : Nat) : Int)) := (World.cell?_of_block (w := w) (hO.block b hbg)).trans (hcell k hlt)
      clear hcell hr
      have hcs := hR'.cell (j := o + k) (by omega)
      have hfz := hR'.frozen (o + k)
      have hd : decide (k < bs.length) = true := by simpa using hlt
      have hy := ok_get hob k
      have hs := hR'.lim (o + k)
      obtain ⟨s1, s2, s3⟩ := mul_step hx hy hs hc
      have HS := Lib.hid s3
      clear s3
      have hkL : k < L := by omega
      go_wp2_with fail
      refine (mul64_any x (lat bs k) hx hy _).mono ?_
      rintro e W1 ⟨rfl, rfl⟩
      have ha1 : ∀ w, (callFunc 44 #[.int .u64 ((mulLo x (lat bs k) : Nat) : Int), .int .u64 ((f' (o + k) : Nat) : Int), .int .u64 0]).run Try.prog w = _ := fun w => add64 (mulLo x (lat bs k)) (f' (o + k)) 0 (by omega) w
      have ha2 : ∀ w, (callFunc 44 #[.int .u64 ((addLo (mulLo x (lat bs k)) (f' (o + k)) 0 : Nat) : Int), .int .u64 (c : Int), .int .u64 0]).run Try.prog w = _ := fun w => add64 (addLo (mulLo x (lat bs k)) (f' (o + k)) 0) c 0 (by omega) w
      go_wp2_with fail
      go_roundw
      case rel =>
        refine ⟨k + 1, mulC x (lat bs k) (f' (o + k)) c, upd f' (o + k) (mulN x (lat bs k) (f' (o + k)) c), by omega, by go_num, ?_, s2, hR'.set _ (addLo_lt _ _ _), hO.set _ _, ?_, ?_⟩
        · rw [wrap_add (a := mulHi x (lat bs k)) s1]; exact congrArg (Value.int .u64) (wrap_add (a := mulC1 x (lat bs k) (f' (o + k))) s2)
        · intro j hj
          rw [upd_other _ _ (by omega)]
          exact HF.out j (by omega)
        · rw [sm_upd_last, sm_succ, sm_succ, Nat.pow_succ, ← HF.out (o + k) (by omega), Nat.zero_add]
          exact add_round HE.out HS.out
      case measure => simp [intOf]; omega
    · obtain rfl : k = bs.length := by omega
      have hd : decide (bs.length < bs.length) = false := by simp
      go_wp2
      go_ret
      exact ⟨c, f', rfl, hc, hR', hO, HF.out, by rw [val_sm bs]; exact HE.out⟩

theorem off_round {P a b c r y c' n X : Nat} (h : a + X = b + P * c) (e : n + y + c = r + M * c') : (a + P * n) + (X + P * y) = (b + P * r) + P * M * c' := by
  have := congrArg (P * ·) e
  simp only [Nat.mul_add] at this
  rw [← Nat.mul_assoc] at this
  omega

set_option maxRecDepth 100000 in
set_option maxHeartbeats 4000000 in
theorem takeOff_any (g n o L cap : Nat) (f : Nat → Nat) (vb : Value) (bs : List Nat) (w : World) (hR : Row w g n f) (hb : Off g w vb bs) (hL : bs.length ≤ L) (ho : o + L ≤ n) (hcap : L ≤ cap) (hlb : bs.length ≤ 1099511627776) (hn : n ≤ 4398046511104) :
    Calls Try.prog 88 #[.slice (some ⟨g, o, none⟩) L cap, vb] w fun e w' => ∃ (b : Nat) (f' : Nat → Nat), e = .returned (.tuple #[]) ∧ b ≤ 1 ∧ Row w' g n f' ∧ Only g w w' ∧
      (∀ j, (j < o ∨ o + bs.length ≤ j) → f' j = f j) ∧ sm f' o bs.length + val bs = sm f o bs.length + M ^ bs.length * b := by
  have hob := hb.ok
  obtain ⟨A, cb, rfl, hcb, _, hr⟩ := id hb
  go_enter Try.func88, Try.ntmps88
  go_wp2
  go_loopw [4, 9] (fun c i wr => ∃ (k cc : Nat) (f' : Nat → Nat), k ≤ bs.length ∧ i = .int .i64 k ∧ c = .int .u64 (cc : Int) ∧ cc ≤ 1 ∧ Row wr g n f' ∧ Only g w wr ∧
      (∀ j, (j < o ∨ o + k ≤ j) → f' j = f j) ∧ sm f' o k + sm (lat bs) 0 k = sm f o k + M ^ k * cc)
    (fun _ i _ => bs.length - (intOf i).toNat)
  case atStart => exact ⟨0, 0, f, Nat.zero_le _, rfl, rfl, Nat.zero_le _, hR, Only.refl _ _, fun _ _ => rfl, by simp [sm]⟩
  case round =>
    obtain ⟨k, c, f', hk, rfl, rfl, hc, hR', hO, hf, he⟩ := hrel
    have HE := Lib.hid he
    have HF := Lib.hid hf
    clear he hf
    by_cases hlt : k < bs.length
    · obtain ⟨b, off, rfl, hbg, hcell⟩ := hr (by omega)
      have hck : wr.cell? ⟨b, off + k, none⟩ = some (.int .u64 ((lat bs k : Nat) : Int)) := (World.cell?_of_block (w := w) (hO.block b hbg)).trans (hcell k hlt)
      clear hcell hr
      have hcs := hR'.cell (j := o + k) (by omega)
      have hfz := hR'.frozen (o + k)
      have hd : decide (k < bs.length) = true := by simpa using hlt
      have hy := ok_get hob k
      have hs := hR'.lim (o + k)
      have hkL : k < L := by omega
      have s1 := subHi_le (f' (o + k)) (lat bs k) c
      have s3 := sub_split hs hy hc
      have HS := Lib.hid s3
      clear s3
      have ha1 : ∀ w, (callFunc 40 #[.int .u64 ((f' (o + k) : Nat) : Int), .int .u64 ((lat bs k : Nat) : Int), .int .u64 (c : Int)]).run Try.prog w = _ := fun w => sub64 (f' (o + k)) (lat bs k) c hc w
      go_wp2_with fail
      go_roundw
      case rel =>
        refine ⟨k + 1, subHi (f' (o + k)) (lat bs k) c, upd f' (o + k) (subLo (f' (o + k)) (lat bs k) c), by omega, by go_num, rfl, s1, hR'.set _ (subLo_lt _ _ _), hO.set _ _, ?_, ?_⟩
        · intro j hj
          rw [upd_other _ _ (by omega)]
          exact HF.out j (by omega)
        · rw [sm_upd_last, sm_succ, sm_succ, Nat.pow_succ, ← HF.out (o + k) (by omega), Nat.zero_add]
          exact off_round HE.out HS.out
      case measure => simp [intOf]; omega
    · obtain rfl : k = bs.length := by omega
      have hd : decide (bs.length < bs.length) = false := by simp
      go_wp2
      go_end0
      exact ⟨c, f', rfl, hc, hR', hO, HF.out, by rw [val_sm bs]; exact HE.out⟩

theorem newton_nat {a n : Nat} (ha : a < M) (hn : n < M) {k : Nat} (hk : k < 5) (h : (2 : Int) ^ nbit k ∣ (a : Int) * (n : Int) - 1) :
    ∃ n' : Nat, n' < M ∧ IntKind.u64.wrap ((n : Int) * IntKind.u64.wrap (2 - IntKind.u64.wrap ((a : Int) * (n : Int)))) = (n' : Int) ∧ (2 : Int) ^ nbit (k + 1) ∣ (a : Int) * (n' : Int) - 1 := by
  obtain ⟨h1, h2⟩ := nbit_next hk
  have hN := newton h h1 h2
  simp only [IntKind.wrap_u64]
  obtain ⟨n', e⟩ : ∃ n' : Nat, (n : Int) * ((2 - (a : Int) * (n : Int) % 18446744073709551616) % 18446744073709551616) % 18446744073709551616 = (n' : Int) := ⟨_, (Int.toNat_of_nonneg (Int.emod_nonneg _ (by decide))).symm⟩
  rw [e] at hN
  refine ⟨n', ?_, e, hN⟩
  have := Int.emod_lt_of_pos ((n : Int) * ((2 - (a : Int) * (n : Int) % 18446744073709551616) % 18446744073709551616)) (show (0 : Int) < 18446744073709551616 by decide)
  unfold M
  omega

set_option maxRecDepth 100000 in
set_option maxHeartbeats 4000000 in
theorem inverseOf_any (a : Nat) (w : World) (ha : a < M) (ho : a % 2 = 1) :
    Calls Try.prog 80 #[.int .u64 (a : Int)] w fun e w' => ∃ i : Nat, e = .returned (.int .u64 (i : Int)) ∧ i < M ∧ a * i % M = 1 ∧ w' = w := by
  go_enter Try.func80, Try.ntmps80
  go_wp2
  go_loopw [3, 5] (fun c i wr => ∃ (k n : Nat), k ≤ 5 ∧ i = .int .i64 k ∧ c = .int .u64 (n : Int) ∧ n < M ∧ wr = w ∧ (2 : Int) ^ nbit k ∣ (a : Int) * (n : Int) - 1)
    (fun _ i _ => 5 - (intOf i).toNat)
  case atStart => exact ⟨0, a, by omega, rfl, rfl, ha, rfl, newton_start ho⟩
  case round =>
    obtain ⟨k, n, hk, rfl, rfl, hn, rfl, he⟩ := hrel
    have HE := Lib.hid he
    clear he
    by_cases hlt : k < 5
    · have hd : decide ((k : Int) < 5) = true := by simp; omega
      go_wp2_with fail
      go_roundw
      case rel =>
        obtain ⟨n', h1, h2, h3⟩ := newton_nat ha hn hlt HE.out
        exact ⟨k + 1, n', by omega, by go_num, congrArg (Value.int .u64) h2, h1, trivial, h3⟩
      case measure => simp [intOf]; omega
    · obtain rfl : k = 5 := by omega
      go_wp2
      go_ret
      exact ⟨n, rfl, hn, newton_end HE.out, rfl⟩

end Go.Proofs.Ytilbkfgbbajelaa
