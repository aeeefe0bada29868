/- lodgelaw09.TreeEnds answers true, whatever slice of spots comes in, and leaves memory below as it was. No condition. -/
import Derived.Test.YtgnebmandifhiaaAwake9
namespace Go.Proofs.Ytgnebmandifhiaa
open Go Go.RowKit
set_option linter.unusedVariables false

theorem part_at (t : Tr) (i : Nat) (hi : i < (flat t).length) : ((flat t)[i].1 = true → endI (flat t) (i : Int) = ((i + 1 : Nat) : Int)) ∧
    ((flat t)[i].1 = false → ∃ mid z : Nat, endI (flat t) ((i + 1 : Nat) : Int) = (mid : Int) ∧ i + 1 < mid ∧ mid < (flat t).length ∧ endI (flat t) (i : Int) = (z : Int) ∧ endI (flat t) (mid : Int) = (z : Int)) := by
  obtain ⟨u, r, e⟩ := flat_drop t i hi
  have h0 : (flat t)[i] = (flat u ++ r)[0]'(by have := flat_pos u; simp; omega) := by
    have : ((flat t).drop i)[0]'(by simp; omega) = (flat t)[i] := by simp
    rw [← this]
    congr 1
  have h1 := endI_part (flat t) i u r e
  cases u with
  | leaf a b =>
    refine ⟨fun _ => by rw [h1]; rfl, fun hf => ?_⟩
    rw [h0] at hf
    cases hf
  | inner a b l k =>
    refine ⟨fun ht => ?_, fun _ => ?_⟩
    · rw [h0] at ht
      cases ht
    · have el := flat_inner_len a b l k
      have hl := congrArg List.length e
      simp only [List.length_drop, List.length_append] at hl
      have p1 := flat_pos l
      have p2 := flat_pos k
      have e2 : (flat t).drop (i + 1) = flat l ++ (flat k ++ r) := by
        rw [← List.drop_drop, e]
        simp [flat]
      have h2 := endI_part (flat t) (i + 1) l (flat k ++ r) e2
      have e3 : (flat t).drop (i + 1 + (flat l).length) = flat k ++ r := by
        rw [← List.drop_drop, e2, List.drop_left]
      have h3 := endI_part (flat t) (i + 1 + (flat l).length) k r e3
      refine ⟨i + 1 + (flat l).length, i + 1 + (flat l).length + (flat k).length, h2, by omega, by omega, ?_, h3⟩
      rw [h1]
      congr 1
      omega
set_option maxRecDepth 100000 in
set_option maxHeartbeats 8000000 in
theorem treeEnds_walk (A : Option Addr) (la ca : Nat) (w : World) (h : ∃ xs, Spots w.heap.size w xs [.slice A la ca]) :
    Calls Try.prog 7 #[.slice A la ca] w fun e w' => e = .returned (.bool true) ∧ Below w.heap.size w w' := by
  obtain ⟨xs, hx⟩ := h
  have HX := Lib.hid hx
  obtain ⟨_, _, e, hlc, hcm, hp⟩ := spots_at hx
  simp only [Value.slice.injEq] at e
  obtain ⟨rfl, hla, rfl⟩ := e
  have HP := Lib.hid hp
  have hc1 : ca ≤ 9223372036854775807 := Nat.le_trans hcm (by decide)
  subst hla
  clear hx hcm hp
  by_cases h1 : 60 < xs.length
  · have hd : decide (60 < xs.length) = true := decide_eq_true h1
    have hd2 : decide ((60 : Int) < (xs.length : Int)) = true := decide_eq_true (by omega)
    go_enter Try.func7, Try.ntmps7
    go_wp2_with fail
    refine (awake9_any w).mono ?_
    rintro e W9 ⟨rfl, B9⟩
    go_wp2
    go_ret
    exact ⟨rfl, B9⟩

  · have hd : decide (60 < xs.length) = false := decide_eq_false h1
    have hd2 : decide ((60 : Int) < (xs.length : Int)) = false := decide_eq_false (by omega)
    go_enter Try.func7, Try.ntmps7
    go_wp2_with fail
    refine (right_any _ xs w HX.out (by omega)).mono ?_
    rintro e W1 ⟨rfl, B1⟩
    cases hox : okT xs
    · clear hox
      go_wp2_with fail
      refine (awake9_any W1).mono ?_
      rintro e W9 ⟨rfl, B9⟩
      go_wp2
      go_ret
      exact ⟨rfl, B1.trans (B9.mono B1.size)⟩

    · have HQ : Hid (∀ i, (hi : i < xs.length) → (xs[i].1 = true → endI xs (i : Int) = ((i + 1 : Nat) : Int)) ∧ (xs[i].1 = false → ∃ mid z : Nat, endI xs ((i + 1 : Nat) : Int) = (mid : Int) ∧ i + 1 < mid ∧ mid < xs.length ∧ endI xs (i : Int) = (z : Int) ∧ endI xs (mid : Int) = (z : Int))) := Lib.hid fun i hi => by
        have hne : xs ≠ [] := by intro e; subst e; simp at hi
        obtain ⟨t, rfl⟩ := okT_flat hox hne
        exact part_at t i hi
      clear hox
      go_wp2_with fail
      go_loopw [3] (fun i wr => ∃ (k : Nat) (wq : World), wq = wr ∧ k ≤ xs.length ∧ i = .int .i64 k ∧ Below w.heap.size w wr) (fun i _ => xs.length - (intOf i).toNat)
      case atStart => exact ⟨0, _, rfl, Nat.zero_le _, rfl, B1⟩
      case round =>
        obtain ⟨k, wr, rfl, hk, rfl, B⟩ := hrel
        by_cases hlt : k < xs.length
        · have hdk : decide (k < xs.length) = true := by simpa using hlt
          have hi : (k : Int) < (xs.length : Int) := by omega
          have hge : (0 : Int) ≤ (k : Int) := by omega
          obtain ⟨g, off, rfl, hbn, hc0, hc1, hc2⟩ := HP.out k hlt
          have k0 := (B.cell (p := ⟨g, off + k * 3, none⟩) hbn).trans hc0
          have HK := Lib.hid (HQ.out k hlt)
          have HS := Lib.hid (keeps_spots _ _ _ _ _ _ HX.out B B.size)
          clear hc0 hc1 hc2
          obtain ⟨f, hf⟩ : ∃ f, xs[k].1 = f := ⟨_, rfl⟩
          have HF := Lib.hid hf
          rw [hf] at k0
          clear hf
          cases f
          · obtain ⟨mid, z, m1, m2, m3, m4, m5⟩ := HK.out.2 HF.out
            have M1 : Hid (endI xs ((k : Int) + 1) = (mid : Int)) := Lib.hid (by simpa using m1)
            have M4 := Lib.hid m4
            have M5 := Lib.hid m5
            clear m1 m4 m5
            have q1 : decide (mid ≤ k + 1) = false := decide_eq_false (by omega)
            have q2 : decide ((mid : Int) ≤ (k : Int) + 1) = false := decide_eq_false (by omega)
            have q3 : decide (xs.length ≤ mid) = false := decide_eq_false (by omega)
            have q4 : decide ((xs.length : Int) ≤ (mid : Int)) = false := decide_eq_false (by omega)
            go_wp2_with fail
            refine (Calls.mono (R := fun E W' => E = .returned (.int .i64 (mid : Int)) ∧ Below wr.heap.size wr W') (by have := end_any _ xs ((k : Int) + 1) wr HS.out (by omega); rw [M1.out] at this; exact this) ?_)
            rintro e W2 ⟨rfl, B2⟩
            have HS2 := Lib.hid (keeps_spots _ _ _ _ _ _ HS.out B2 B2.size)
            go_wp2_with fail
            refine (end_any _ xs (k : Int) W2 HS2.out (by omega)).mono ?_
            rintro e W3 ⟨rfl, B3⟩
            rw [M4.out]
            have HS3 := Lib.hid (keeps_spots _ _ _ _ _ _ HS2.out B3 B3.size)
            go_wp2_with fail
            refine (end_any _ xs (mid : Int) W3 HS3.out (by omega)).mono ?_
            rintro e W4 ⟨rfl, B4⟩
            rw [M5.out]
            go_wp2
            go_roundw
            case rel => exact ⟨k + 1, _, rfl, by omega, by go_num, B.trans ((B2.trans (B3.mono B2.size)).trans (B4.mono (Nat.le_trans B2.size B3.size)) |>.mono B.size)⟩
            case measure => simp [intOf]; omega
          · have M1 := Lib.hid (HK.out.1 HF.out)
            have c1 : ((k + 1 : Nat) : Int) = (k : Int) + 1 := by omega
            go_wp2_with fail
            refine (end_any _ xs (k : Int) wr HS.out (by omega)).mono ?_
            rintro e W2 ⟨rfl, B2⟩
            rw [M1.out, c1]
            go_wp2
            go_roundw
            case rel => exact ⟨k + 1, _, rfl, by omega, by go_num, B.trans (B2.mono B.size)⟩
            case measure => simp [intOf]; omega
        · have hdk : decide (k < xs.length) = false := by simpa using hlt
          go_wp2_with fail
          refine (awake9_any wr).mono ?_
          rintro e W9 ⟨rfl, B9⟩
          go_wp2
          go_ret
          exact ⟨rfl, B.trans (B9.mono B.size)⟩


end Go.Proofs.Ytgnebmandifhiaa
