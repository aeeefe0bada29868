/- long.takeAll takes a number from limbs that lie in a row as many times as it is in them, and answers how many times. Conditions: the number's highest bit is set; the limbs are less than it with a nought below; it lies elsewhere. -/
import Derived.Test.YtilbkfgbbajelaaGuess
import Derived.Test.YtilbkfgbbajelaaMulA
namespace Go.Proofs.Ytilbkfgbbajelaa
open Go.RowKit Go.Shelf Num
set_option linter.unusedVariables false

/-- The two highest limbs' guess is no less than the digit. -/
theorem guess_row {f : Nat → Nat} {o m : Nat} {bs : List Nat} (hf : ∀ j, f j < M) (hm : bs.length = m + 1) (ht : 0 < lat bs m) : sm f o (m + 2) / val bs ≤ (f (o + (m + 1)) * M + f (o + m)) / lat bs m := by
  have hP : 0 < M ^ m := Nat.pow_pos M_pos
  refine guess_ge (P := M ^ m) hP ht ?_ ?_
  · have h1 := sm_lt hf o m
    rw [sm_succ, sm_succ, Nat.pow_succ, Nat.add_mul, Nat.add_mul]
    have e1 : f (o + (m + 1)) * M * M ^ m = M ^ m * M * f (o + (m + 1)) := by rw [Nat.mul_assoc, Nat.mul_comm]; rw [Nat.mul_comm M]
    have e2 : f (o + m) * M ^ m = M ^ m * f (o + m) := Nat.mul_comm _ _
    rw [e1, e2]
    omega
  · rw [val_sm, hm, sm_succ, Nat.zero_add, Nat.mul_comm]
    omega

theorem bool_no {a b P : Nat} (h : a = b + P * false.toNat) : a = b := by simpa using h
theorem bool_yes {a b P : Nat} (h : a = b + P * true.toNat) : a = b + P := by simpa using h
theorem bool_not {a b P : Nat} (c : Bool) (h : a = b + P * (1 - c.toNat)) : a = b + P * (!c).toNat := by cases c <;> simpa using h

set_option maxRecDepth 100000 in
set_option maxHeartbeats 4000000 in
theorem takeAll_any (g n o cap m : Nat) (f : Nat → Nat) (vb : Value) (bs : List Nat) (w : World) (hR : Row w g n f) (hb : Off g w vb bs) (hm : bs.length = m + 1) (ho : o + (m + 2) ≤ n) (hcap : m + 2 ≤ cap) (ht : 9223372036854775808 ≤ lat bs m)
    (hlt : sm f o (m + 2) < M * val bs) (hlb : bs.length ≤ 1099511627776) (hn : n ≤ 4398046511104) :
    Calls Try.prog 68 #[.slice (some ⟨g, o, none⟩) (m + 2) cap, vb] w fun e w' => ∃ (f' : Nat → Nat), e = .returned (.int .u64 ((sm f o (m + 2) / val bs : Nat) : Int)) ∧ Row w' g n f' ∧ Only g w w' ∧
      (∀ j, (j < o ∨ o + (m + 2) ≤ j) → f' j = f j) ∧ sm f' o (m + 2) = sm f o (m + 2) % val bs := by
  have hob := hb.ok
  have hD : 0 < val bs := by
    rcases Nat.eq_zero_or_pos (val bs) with h | h
    · rw [h] at hlt; simp at hlt
    · exact h
  have hgu := guess_row hR.1 hm (by omega) (o := o)
  have hq : sm f o (m + 2) / val bs < M := (Nat.div_lt_iff_lt_mul hD).2 hlt
  have hge := guessN_ge hq hgu
  have hgl := guessN_lt (h := f (o + (m + 1))) (d := lat bs m) (hR.1 (o + m))
  have hgc := fun w' : World => guess_any (f (o + (m + 1))) (f (o + m)) (lat bs m) w' (hR.1 _) (hR.1 _) (ok_get hob m) ht
  have HG := Lib.hid hgc
  clear hgc
  obtain ⟨t0, ht0⟩ : ∃ t, t = guessN (f (o + (m + 1))) (f (o + m)) (lat bs m) := ⟨_, rfl⟩
  rw [← ht0] at hge hgl HG
  obtain ⟨A, cb, rfl, hcb, _, hr⟩ := id hb
  obtain ⟨b, off, rfl, hbg, hcell⟩ := hr (by omega)
  have hc3 := hcell m (by omega)
  have hc1 := hR.cell (j := o + (m + 1)) (by omega)
  have hc2 := hR.cell (j := o + m) (by omega)
  rw [hm] at hcb ⊢
  clear hcell hr ht0 hgu
  have hb' : Off g w (.slice (some ⟨b, off, none⟩) (m + 1) cb) bs := by rw [← hm]; exact hb
  have e2 : bs.length + 1 = m + 2 := by omega
  have e3 : o + bs.length + 1 = o + (m + 2) := by omega
  clear hb
  generalize hqq : sm f o (m + 2) / val bs = q at *
  have HQ := Lib.hid hqq
  clear hqq hlt
  have i1 : ((m : Int) + 1) < ((m : Int) + 2) := by omega
  have i2 : (m : Int) < ((m : Int) + 2) := by omega
  have i3 : (m : Int) < ((m : Int) + 1) := by omega
  go_enter Try.func68, Try.ntmps68
  go_upto_region 1 with fail
  go_quiet ((go_at_call 77; refine Calls.quiet_of (HG.out _)))
  go_wp2_with fail
  refine (takeTimes_any g n o (m + 2) cap f _ bs t0 (w.drewN nq) (hR.drewN nq) (hb'.only ((Only.refl g w).drewN nq)) (by omega) ho hcap hgl hlb hn).mono ?_
  rintro e W1 ⟨bl, f1, rfl, hR1, hO1, hf1, he1⟩
  replace hO1 : Only g w W1 := ((Only.refl g w).drewN nq).trans hO1
  rw [e2] at he1
  simp only [e3] at hf1
  clear hc1 hc2 hc3 HG i1 i2 i3
  have HE1 := Lib.hid he1
  have HF1 := Lib.hid hf1
  clear he1 hf1
  go_wp2_with fail
  go_loopw [5, 6] (fun t bl wr => ∃ (T : Nat) (B : Bool) (F : Nat → Nat), t = .int .u64 (T : Int) ∧ bl = .bool B ∧ T < M ∧ q ≤ T ∧ Row wr g n F ∧ Only g w wr ∧ (∀ j, (j < o ∨ o + (m + 2) ≤ j) → F j = f j) ∧
      sm F o (m + 2) + T * val bs = sm f o (m + 2) + M ^ (m + 2) * B.toNat)
    (fun t _ _ => (intOf t).toNat)
  case atStart => exact ⟨t0, bl, f1, rfl, rfl, hgl, hge, hR1, hO1, HF1.out, HE1.out⟩
  case round =>
    obtain ⟨T, B, F, rfl, rfl, hT, hqT, hRF, hOF, hF, hE⟩ := hrel
    clear HE1 HF1 hR1 hO1
    have HF := Lib.hid hF
    clear hF
    have hS := sm_lt hRF.1 o (m + 2)
    cases B with
    | true =>
      replace hE := bool_yes hE
      have hlt : sm f o (m + 2) < T * val bs := by omega
      have hT1 : 1 ≤ T := by
        rcases Nat.eq_zero_or_pos T with h | h
        · rw [h] at hlt; simp at hlt
        · exact h
      have hq1 : q ≤ T - 1 := by rw [← HQ.out]; exact more_than hD hlt
      have HE := Lib.hid hE
      have HS := Lib.hid hS
      unfold M at hT
      clear hE hS hlt
      go_wp2_with fail
      refine (putBack_any g n o (m + 2) cap F _ bs wr hRF (hb'.only hOF) (by omega) ho hcap hlb hn).mono ?_
      rintro e W2 ⟨c, f2, rfl, hR2, hO2, hf2, he2⟩
      rw [e2] at he2
      simp only [e3] at hf2
      have HE2 := Lib.hid he2
      have HF2 := Lib.hid hf2
      clear he2 hf2
      go_wp2_with fail
      go_roundw
      case rel =>
        refine ⟨T - 1, !c, f2, congrArg (Value.int .u64) (by omega), rfl, by unfold M; omega, hq1, hR2, hOF.trans hO2, fun j hj => (HF2.out j hj).trans (HF.out j hj), ?_⟩
        exact bool_not c (put_back HE.out HS.out HE2.out (by cases c <;> simp)).2.2
      case measure => simp [intOf]; omega
    | false =>
      have HE := Lib.hid hE
      clear hE hS
      go_wp2
      go_ret
      have h : sm F o (m + 2) + T * val bs = sm f o (m + 2) := bool_no HE.out
      obtain ⟨h1, h2⟩ := all_taken hD h (by rw [HQ.out]; exact hqT)
      rw [HQ.out] at h1
      subst h1
      exact ⟨F, rfl, hRF, hOF, HF.out, h2⟩

end Go.Proofs.Ytilbkfgbbajelaa
