/- long.putBack: adds a number to limbs that lie in a row, and tells whether something is carried out. Conditions: the row has a limb more than the number; the number lies elsewhere; lengths below 2^40. -/
import Derived.Test.YtmbdidompjgaaaaAddT
namespace Go.Proofs.Ytmbdidompjgaaaa
open Go.RowKit Go.Shelf Num
set_option linter.unusedVariables false

set_option maxRecDepth 100000 in
set_option maxHeartbeats 4000000 in
theorem putBack_any (g n o L cap : Nat) (f : Nat → Nat) (vb : Value) (bs : List Nat) (w : World) (hR : Row w g n f) (hb : Off g w vb bs) (hL : bs.length < L) (ho : o + L ≤ n) (hcap : L ≤ cap) (hlb : bs.length ≤ 1099511627776) (hn : n ≤ 4398046511104) :
    Calls Try.prog 62 #[.slice (some ⟨g, o, none⟩) L cap, vb] w fun e w' => ∃ (b : Bool) (f' : Nat → Nat), e = .returned (.bool b) ∧ Row w' g n f' ∧ Only g w w' ∧
      (∀ j, (j < o ∨ o + bs.length + 1 ≤ j) → f' j = f j) ∧ sm f' o (bs.length + 1) + M ^ (bs.length + 1) * b.toNat = sm f o (bs.length + 1) + val bs := by
  have hob := hb.ok
  obtain ⟨A, cb, rfl, hcb, _, hr⟩ := id hb
  go_enter Try.func62, Try.ntmps62
  go_wp2
  go_loopw [5, 10] (fun c i wr => ∃ (k cc : Nat) (f' : Nat → Nat), k ≤ bs.length ∧ i = .int .i64 k ∧ c = .int .u64 (cc : Int) ∧ cc ≤ 1 ∧ Row wr g n f' ∧ Only g w wr ∧
      (∀ j, (j < o ∨ o + k ≤ j) → f' j = f j) ∧ sm f' o k + M ^ k * cc = sm f o k + sm (lat bs) 0 k)
    (fun _ i _ => bs.length - (intOf i).toNat)
  case atStart => exact ⟨0, 0, f, Nat.zero_le _, rfl, rfl, Nat.zero_le _, hR, Only.refl _ _, fun _ _ => rfl, by simp [sm]⟩
  case round =>
    obtain ⟨k, c, f', hk, rfl, rfl, hc, hR', hO, hf, he⟩ := hrel
    have HE := Lib.hid he
    have HF := Lib.hid hf
    clear he hf
    by_cases hlt : k < bs.length
    · obtain ⟨b, off, rfl, hbg, hcell⟩ := hr (by omega)
      have hck : wr.cell? ⟨b, off + k, none⟩ = some (.int .u64 ((lat bs k : Nat) : Int)) := (World.cell?_of_block (w := w) (hO.block b hbg)).trans (hcell k hlt)
      clear hcell hr
      have hcs := hR'.cell (j := o + k) (by omega)
      have hfz := hR'.frozen (o + k)
      have hd : decide (k < bs.length) = true := by simpa using hlt
      have hy := ok_get hob k
      have hs := hR'.lim (o + k)
      have hkL : k < L := by omega
      have s1 := addHi_le hs hy hc
      have s3 := add_split (f' (o + k)) (lat bs k) c
      have HS := Lib.hid s3
      clear s3
      have ha1 : ∀ w, (callFunc 34 #[.int .u64 ((f' (o + k) : Nat) : Int), .int .u64 ((lat bs k : Nat) : Int), .int .u64 (c : Int)]).run Try.prog w = _ := fun w => add64 (f' (o + k)) (lat bs k) c hc w
      go_wp2_with fail
      go_roundw
      case rel =>
        refine ⟨k + 1, addHi (f' (o + k)) (lat bs k) c, upd f' (o + k) (addLo (f' (o + k)) (lat bs k) c), by omega, by go_num, rfl, s1, hR'.set _ (addLo_lt _ _ _), hO.set _ _, ?_, ?_⟩
        · intro j hj
          rw [upd_other _ _ (by omega)]
          exact HF.out j (by omega)
        · rw [sm_upd_last, sm_succ, sm_succ, Nat.pow_succ, ← HF.out (o + k) (by omega), Nat.zero_add]
          exact put_round HE.out HS.out
      case measure => simp [intOf]; omega
    · obtain rfl : k = bs.length := by omega
      have hd : decide (bs.length < bs.length) = false := by simp
      have hcs := hR'.cell (j := o + bs.length) (by omega)
      have hfz := hR'.frozen (o + bs.length)
      have hs := hR'.lim (o + bs.length)
      have ha2 : ∀ w, (callFunc 34 #[.int .u64 ((f' (o + bs.length) : Nat) : Int), .int .u64 0, .int .u64 (c : Int)]).run Try.prog w = _ := fun w => add64 (f' (o + bs.length)) 0 c hc w
      have hsp := add_split (f' (o + bs.length)) 0 c
      have hle := addHi_le hs M_pos hc
      have fin : ∀ b : Nat, addHi (f' (o + bs.length)) 0 c = b → sm (upd f' (o + bs.length) (addLo (f' (o + bs.length)) 0 c)) o (bs.length + 1) + M ^ (bs.length + 1) * b = sm f o (bs.length + 1) + val bs := by
        rintro b rfl
        rw [sm_upd_last, sm_succ, val_sm bs, Nat.pow_succ, ← HF.out (o + bs.length) (by omega)]
        exact put_last HE.out hsp
      have HFI := Lib.hid fin
      clear hsp fin
      rcases Nat.lt_or_ge 0 (addHi (f' (o + bs.length)) 0 c) with h1 | h1
      · have hq : (((addHi (f' (o + bs.length)) 0 c : Nat) : Int) != 0) = true := by simp; omega
        have H1 := Lib.hid (show addHi (f' (o + bs.length)) 0 c = 1 by omega)
        clear h1 hle
        go_wp2
        go_ret
        exact ⟨true, _, rfl, hR'.set _ (addLo_lt _ _ _), hO.set _ _, fun j hj => by rw [upd_other _ _ (by omega)]; exact HF.out j (by omega), HFI.out 1 H1.out⟩
      · have hq : (((addHi (f' (o + bs.length)) 0 c : Nat) : Int) != 0) = false := by simp; omega
        have H1 := Lib.hid (show addHi (f' (o + bs.length)) 0 c = 0 by omega)
        clear h1 hle
        go_wp2
        go_ret
        exact ⟨false, _, rfl, hR'.set _ (addLo_lt _ _ _), hO.set _ _, fun j hj => by rw [upd_other _ _ (by omega)]; exact HF.out j (by omega), HFI.out 0 H1.out⟩

end Go.Proofs.Ytmbdidompjgaaaa
