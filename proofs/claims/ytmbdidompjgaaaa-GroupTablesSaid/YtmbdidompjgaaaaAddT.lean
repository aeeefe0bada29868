/- long.addTimes adds a multiple of a number to limbs that lie in a row, and answers what is carried out. Conditions: the row has room; the number lies elsewhere; lengths below 2^40. -/
import Derived.Test.YtmbdidompjgaaaaMul64
namespace Go.Proofs.Ytmbdidompjgaaaa
open Go.RowKit Go.Shelf Num
set_option linter.unusedVariables false

theorem wrap_add {a b : Nat} (h : a + b < M) : IntKind.u64.wrap ((a : Int) + (b : Int)) = ((a + b : Nat) : Int) := by
  unfold M at h
  rw [IntKind.wrap_u64]
  omega

set_option maxRecDepth 100000 in
set_option maxHeartbeats 4000000 in
theorem addTimes_any (g n o L cap : Nat) (f : Nat → Nat) (vb : Value) (bs : List Nat) (x : Nat) (w : World) (hR : Row w g n f) (hb : Off g w vb bs) (hL : bs.length ≤ L) (ho : o + L ≤ n) (hcap : L ≤ cap) (hx : x < M) (hlb : bs.length ≤ 1099511627776) (hn : n ≤ 4398046511104) :
    Calls Try.prog 72 #[.slice (some ⟨g, o, none⟩) L cap, vb, .int .u64 (x : Int)] w fun e w' => ∃ (c : Nat) (f' : Nat → Nat), e = .returned (.int .u64 (c : Int)) ∧ c < M ∧ Row w' g n f' ∧ Only g w w' ∧
      (∀ j, (j < o ∨ o + bs.length ≤ j) → f' j = f j) ∧ sm f' o bs.length + M ^ bs.length * c = sm f o bs.length + x * val bs := by
  have hob := hb.ok
  obtain ⟨A, cb, rfl, hcb, _, hr⟩ := id hb
  go_enter Try.func72, Try.ntmps72
  go_wp2
  go_loopw [7, 15] (fun c i wr => ∃ (k cc : Nat) (f' : Nat → Nat), k ≤ bs.length ∧ i = .int .i64 k ∧ c = .int .u64 (cc : Int) ∧ cc < M ∧ Row wr g n f' ∧ Only g w wr ∧
      (∀ j, (j < o ∨ o + k ≤ j) → f' j = f j) ∧ sm f' o k + M ^ k * cc = sm f o k + x * sm (lat bs) 0 k)
    (fun _ i _ => bs.length - (intOf i).toNat)
  case atStart => exact ⟨0, 0, f, Nat.zero_le _, rfl, rfl, M_pos, hR, Only.refl _ _, fun _ _ => rfl, by simp [sm]⟩
  case round =>
    obtain ⟨k, c, f', hk, rfl, rfl, hc, hR', hO, hf, he⟩ := hrel
    have HE := Lib.hid he
    have HF := Lib.hid hf
    clear he hf
    by_cases hlt : k < bs.length
    · obtain ⟨b, off, rfl, hbg, hcell⟩ := hr (by omega)
      have hck : wr.cell? ⟨b, off + k, none⟩ = some (.int .u64 ((lat bs k : Nat) : Int)) := (World.cell?_of_block (w := w) (hO.block b hbg)).trans (hcell k hlt)
      clear hcell hr
      have hcs := hR'.cell (j := o + k) (by omega)
      have hfz := hR'.frozen (o + k)
      have hd : decide (k < bs.length) = true := by simpa using hlt
      have hy := ok_get hob k
      have hs := hR'.lim (o + k)
      obtain ⟨s1, s2, s3⟩ := mul_step hx hy hs hc
      have HS := Lib.hid s3
      clear s3
      have hkL : k < L := by omega
      go_wp2_with fail
      refine (mul64_any x (lat bs k) hx hy _).mono ?_
      rintro e W1 ⟨rfl, rfl⟩
      have ha1 : ∀ w, (callFunc 34 #[.int .u64 ((mulLo x (lat bs k) : Nat) : Int), .int .u64 ((f' (o + k) : Nat) : Int), .int .u64 0]).run Try.prog w = _ := fun w => add64 (mulLo x (lat bs k)) (f' (o + k)) 0 (by omega) w
      have ha2 : ∀ w, (callFunc 34 #[.int .u64 ((addLo (mulLo x (lat bs k)) (f' (o + k)) 0 : Nat) : Int), .int .u64 (c : Int), .int .u64 0]).run Try.prog w = _ := fun w => add64 (addLo (mulLo x (lat bs k)) (f' (o + k)) 0) c 0 (by omega) w
      go_wp2_with fail
      go_roundw
      case rel =>
        refine ⟨k + 1, mulC x (lat bs k) (f' (o + k)) c, upd f' (o + k) (mulN x (lat bs k) (f' (o + k)) c), by omega, by go_num, ?_, s2, hR'.set _ (addLo_lt _ _ _), hO.set _ _, ?_, ?_⟩
        · rw [wrap_add (a := mulHi x (lat bs k)) s1]; exact congrArg (Value.int .u64) (wrap_add (a := mulC1 x (lat bs k) (f' (o + k))) s2)
        · intro j hj
          rw [upd_other _ _ (by omega)]
          exact HF.out j (by omega)
        · rw [sm_upd_last, sm_succ, sm_succ, Nat.pow_succ, ← HF.out (o + k) (by omega), Nat.zero_add]
          exact add_round HE.out HS.out
      case measure => simp [intOf]; omega
    · obtain rfl : k = bs.length := by omega
      have hd : decide (bs.length < bs.length) = false := by simp
      go_wp2
      go_ret
      exact ⟨c, f', rfl, hc, hR', hO, HF.out, by rw [val_sm bs]; exact HE.out⟩

end Go.Proofs.Ytmbdidompjgaaaa
