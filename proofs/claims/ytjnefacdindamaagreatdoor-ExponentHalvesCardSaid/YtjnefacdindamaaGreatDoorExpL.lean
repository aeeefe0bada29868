import Derived.Test.YtjnefacdindamaaGreatDoorExpK
import Derived.Test.YtjnefacdindamaaGreatDoorTreeR
import Derived.Test.YtjnefacdindamaaGreatDoorRefJ
import Derived.Test.YtjnefacdindamaaGreatDoorJoinS
import Derived.Test.YtjnefacdindamaaGreatDoorBoxM
/- lodgelaw14's case (a group, a tree, secrets, a label) as a parameter; its examples' secrets; its small. No condition but those named. -/
namespace Go.Proofs.YtjnefacdindamaaGreatDoor
open Go Go.RowKit
set_option linter.unusedVariables false
set_option maxRecDepth 100000

abbrev Cs := Int × List Sp × List Dr × Int × Int
def IsCase : Rd Cs := fun n w c cs => ∃ u v, cs = [.int .i64 c.1, u, v, .int .i64 c.2.2.2.1, .int .i64 c.2.2.2.2] ∧ Spots n w c.2.1 [u] ∧ Draws n w c.2.2.1 [v]
theorem opens_L14 : Opens Tryz.prog 25 IsM := fun enc w fuel cs x h => by
  obtain ⟨⟨a, b, c⟩, ha, hb, hc⟩ := opens_struct (R := Both 1 (IsInt .i64) (Both 1 (IsInt .i64) Nought)) Tryz.underlying25 (by kernel_rfl) (opensF_cons rfl (by kernel_rfl) (opens_int Tryz.underlying3) (opensF_cons rfl (by kernel_rfl) (opens_int Tryz.underlying3) (opensF_nil 2))) enc w fuel cs x h
  refine ⟨(a, b), ?_⟩
  match cs, ha, hb, hc with
  | [u, v], ha, hb, hc =>
    simp [IsInt] at ha hb
    show _ = _
    rw [ha.1, hb.1]
theorem opens_case : Opens Tryz.prog 27 IsCase := fun enc w fuel cs x h => by
  obtain ⟨⟨a, b, c, d, e⟩, ha, hb, hc, hd, he⟩ := opens_struct (R := Both 1 (IsInt .i64) (Both 1 Spots (Both 1 Draws (Both 2 IsM Nought)))) Tryz.underlying27 (by kernel_rfl) (opensF_cons rfl (by kernel_rfl) (opens_int Tryz.underlying3) (opensF_cons rfl (by kernel_rfl) opens_spots (opensF_cons rfl (by kernel_rfl) opens_draws (opensF_cons rfl (by kernel_rfl) opens_L14 (opensF_nil 5))))) enc w fuel cs x h
  refine ⟨(a, b, c, d.1, d.2), ?_⟩
  match cs, ha, hb, hc, hd, he with
  | [s1, s2, s3, s4, s5], ha, hb, hc, hd, he =>
    simp [IsInt, IsM] at ha hd
    refine ⟨s2, s3, ?_, by simpa using hb, by simpa using hc⟩
    rw [ha.1, hd.1, hd.2]
theorem draws_two (w : World) (a b : Dr) (t : TypeId) (g : Nat) (hg : w.heap.size = g) (ha : a.2.1.length ≤ maxLen) (hb : b.2.1.length ≤ maxLen) : Draws (g + 1) (w.alloc (.cells #[.int .i64 a.1.1, .int .i64 a.1.2, .string (tx a.2.1), .int .i64 a.2.2, .int .i64 b.1.1, .int .i64 b.1.2, .string (tx b.2.1), .int .i64 b.2.2] t)) [a, b] [.slice (some ⟨g, 0, none⟩) 2 2] := by
  subst hg
  refine ⟨some ⟨w.heap.size, 0, none⟩, 2, rfl, Nat.le_refl _, by decide, (fun h => by cases h), fun _ => ⟨w.heap.size, 0, rfl, by omega, fun i hi => ?_⟩⟩
  match i, hi with
  | 0, _ => exact ⟨dC a, rfl, fun j hj => by
      match j, hj with
      | 0, _ => simp
      | 1, _ => simp
      | 2, _ => simp
      | 3, _ => simp, rfl, ha⟩
  | 1, _ => exact ⟨dC b, rfl, fun j hj => by
      match j, hj with
      | 0, _ => simp
      | 1, _ => simp
      | 2, _ => simp
      | 3, _ => simp, rfl, hb⟩
/-- The first j secrets. -/
theorem cut_draws {n : Nat} {w : World} {ds : List Dr} {A : Option Addr} {m cap : Nat} (h : Draws n w ds [.slice A m cap]) (hm : ds.length = m) (hc : m ≤ cap) (j : Nat) (hj : j ≤ m) :
    ∃ A', (∀ wx, (Instr.slice 23 (.slice A m cap) none (some (.int .i64 (j : Int))) none).run Tryz.prog wx = .ok (.slice A' j cap) wx) ∧ Draws n w (ds.take j) [.slice A' j cap] := by
  subst hm
  have hS := slice_cut h 0 j (Nat.zero_le _) hj
  obtain ⟨A', e⟩ := sliced_is A 0 j cap 4
  rw [Nat.sub_zero, Nat.sub_zero] at e
  refine ⟨A', fun wx => ?_, ?_⟩
  · rw [run_slice_h _ _ _ _ _ Tryz.underlying23 _ _ (by omega) (by omega)]
    have es : (sizeOf (Tryz.prog.elem 23)).run Tryz.prog wx = .ok 4 wx := Tryz.sizeOf41 wx
    rw [es]
    simp only [Result.andThen, Int.toNat_natCast, e]
  · rw [e, Nat.sub_zero, List.drop_zero] at hS
    exact hS
set_option maxHeartbeats 1000000 in
theorem drawnL_any (n : Int) (s : ByteArray) (w : World) : Calls Tryz.prog 30 #[.int .i64 n, .string s] w fun e W' => e = .returned (.agg #[.int .i64 n, .int .i64 1, .string s, .int .i64 0]) ∧ Below w.heap.size w W' := by
  go_enter Tryz.func30, Tryz.ntmps30
  go_wp2
  (try simp only [Exit.inBlock, Exit.then]); refine bodyPost_ret (v := .agg #[.int .i64 n, .int .i64 1, .string s, .int .i64 0]) (by simp [results, Tryz.results30, go_sem]) rfl ?_
  exact ⟨rfl, below_new _ _⟩
set_option maxRecDepth 100000 in
set_option maxHeartbeats 4000000 in
theorem smallE_any (g : Int) (xs : List Sp) (ds : List Dr) : ∃ b : Bool, (b = true → g ≠ 5 ∧ xs.length ≤ 40 ∧ ds.length ≤ 40 ∧ (∀ d ∈ ds, d.2.1.length ≤ 4) ∧ ∃ ot, xs = spo ot ∧ okT (spo ot) = true) ∧ ∀ (v u : Value) (w : World), Spots w.heap.size w xs [v] → Draws w.heap.size w ds [u] →
    Calls Tryz.prog 8 #[.int .i64 g, v, u] w fun e W' => e = .returned (.bool b) ∧ Below w.heap.size w W' := by
  refine ⟨decide ((∀ d ∈ ds, d.2.1.length ≤ 4) ∧ g ≠ 5 ∧ xs.length ≤ 40 ∧ ds.length ≤ 40 ∧ okT xs = true), fun h => ?_, fun v u w h h' => ?_⟩
  · obtain ⟨h1, h2, h3, h4, h5⟩ := of_decide_eq_true h
    obtain ⟨ot, rfl⟩ := spo_of h5
    exact ⟨h2, h3, h4, h1, ot, rfl, h5⟩
  obtain ⟨sb, hsb⟩ : ∃ sb, decide ((∀ d ∈ ds, d.2.1.length ≤ 4) ∧ g ≠ 5 ∧ xs.length ≤ 40 ∧ ds.length ≤ 40 ∧ okT xs = true) = sb := ⟨_, rfl⟩
  rw [hsb]
  have HSB := Lib.hid hsb
  clear hsb
  have HX := Lib.hid h
  obtain ⟨A, cap, rfl, hlc, hcm, -⟩ := spots_at h
  obtain ⟨B, cap2, rfl, hlc2, hcm2, hp⟩ := draws_at h'
  have HP := Lib.hid hp
  have hcc : cap2 ≤ 9223372036854775807 := Nat.le_trans hcm2 (by decide)
  have hcd : cap ≤ 9223372036854775807 := Nat.le_trans hcm (by decide)
  have HL := Lib.hid (fun (i : Nat) (hi : i < ds.length) => (h'.choose_spec.choose_spec).2.2)
  have HDL : Hid (∀ d ∈ ds, d.2.1.length ≤ maxLen) := Lib.hid (by
    intro d hd
    obtain ⟨i, hi, rfl⟩ := List.getElem_of_mem hd
    obtain ⟨_, _, e, _, _, _, h3⟩ := h'
    obtain ⟨b, off, _, _, hc⟩ := h3 (by omega)
    obtain ⟨es, _, _, hr⟩ := hc i hi
    exact hr.2)
  clear h h' hp hcm hcm2 HL
  go_enter Tryz.func8, Tryz.ntmps8
  go_wp2_with fail
  go_loop [7] (fun iv => ∃ k : Nat, k ≤ ds.length ∧ iv = .int .i64 (k : Int) ∧ Hid (∀ d ∈ ds.take k, d.2.1.length ≤ 4)) (fun iv => ds.length - (intOf iv).toNat)
  case atStart => exact ⟨0, Nat.zero_le _, rfl, Lib.hid (fun d hd => by simp at hd)⟩
  case round =>
    obtain ⟨k, hk, rfl, HS⟩ := hrel
    by_cases hlt : k < ds.length
    · have hd : decide (k < ds.length) = true := decide_eq_true hlt
      have hi : (k : Int) < (ds.length : Int) := by omega
      have hge : (0 : Int) ≤ (k : Int) := by omega
      obtain ⟨g2, off, rfl, hbn, hc0, hc1, hc2, hc3⟩ := HP.out k hlt
      have HTK := Lib.hid (List.take_succ_eq_append_getElem hlt)
      have hmx := HDL.out _ (List.getElem_mem hlt)
      have HMM := Lib.hid (List.getElem_mem hlt)
      obtain ⟨⟨m, s, t⟩, hx⟩ : ∃ p : Dr, ds[k] = p := ⟨_, rfl⟩
      rw [hx] at hc2 HTK hmx HMM
      simp only at hc2 hmx
      have hsz : (tx s).size = s.length := tx_size s
      have hsm : s.length ≤ 9223372036854775807 := Nat.le_trans hmx (by decide)
      clear hc0 hc1 hc3 hx
      by_cases h4 : 4 < s.length
      · have hd4 : decide (4 < s.length) = true := decide_eq_true h4
        have hd5 : decide ((4 : Int) < (s.length : Int)) = true := decide_eq_true (by omega)
        have HF : Hid (sb = false) := Lib.hid (by rw [← HSB.out]; exact decide_eq_false fun h => by have := h.1 _ HMM.out; simp only at this; omega)
        go_wp2
        go_ret
        exact ⟨by rw [HF.out]; rfl, Below.refl _ _⟩
      · have hd4 : decide (4 < s.length) = false := decide_eq_false h4
        have hd5 : decide ((4 : Int) < (s.length : Int)) = false := decide_eq_false (by omega)
        have HN : Hid (∀ d ∈ ds.take (k + 1), d.2.1.length ≤ 4) := Lib.hid (by
          rw [HTK.out]
          intro d hd
          rcases List.mem_append.1 hd with h | h
          · exact HS.out d h
          · simp only [List.mem_singleton] at h
            subst h
            show s.length ≤ 4
            omega)
        go_wp2
        go_round
        case rel => exact ⟨k + 1, by omega, by go_num, HN⟩
        case measure => simp [intOf]; omega
    · have hd : decide (k < ds.length) = false := decide_eq_false hlt
      have hkk : ds.take k = ds := List.take_of_length_le (by omega)
      have hall := HS.out
      rw [hkk] at hall
      have HB : Hid (sb = (decide (g ≠ 5) && (decide (xs.length ≤ 40) && (decide (ds.length ≤ 40) && okT xs)))) := Lib.hid (by
        rw [← HSB.out, Bool.eq_iff_iff]
        simp only [decide_eq_true_eq, Bool.and_eq_true]
        exact ⟨fun h => h.2, fun h => ⟨hall, h⟩⟩)
      clear hall hkk HS
      by_cases e1 : g = 5
      · have hg1 : (g != 5) = false := by simp [e1]
        have HR : Hid (sb = false) := Lib.hid (by rw [HB.out, decide_eq_false (by simpa using e1)]; rfl)
        clear e1
        go_wp2
        go_ret
        exact ⟨by rw [HR.out]; rfl, Below.refl _ _⟩
      · have hg1 : (g != 5) = true := by simp [e1]
        rw [decide_eq_true (show g ≠ 5 from e1)] at HB
        by_cases e2 : xs.length ≤ 40
        · have hg2 : decide (xs.length ≤ 40) = true := decide_eq_true e2
          have hg3 : decide ((xs.length : Int) ≤ 40) = true := decide_eq_true (by omega)
          rw [hg2] at HB
          by_cases e3 : ds.length ≤ 40
          · have hg4 : decide (ds.length ≤ 40) = true := decide_eq_true e3
            have hg5 : decide ((ds.length : Int) ≤ 40) = true := decide_eq_true (by omega)
            rw [hg4] at HB
            have HR : Hid (sb = okT xs) := Lib.hid (by rw [HB.out]; simp)
            clear HB e1
            go_wp2_with fail
            refine (refRight_any _ xs w HX.out (by omega)).mono ?_
            rintro e W1 ⟨rfl, B⟩
            go_wp2
            go_ret
            exact ⟨by rw [HR.out]; rfl, B⟩
          · have hg4 : decide (ds.length ≤ 40) = false := decide_eq_false e3
            have hg5 : decide ((ds.length : Int) ≤ 40) = false := decide_eq_false (by omega)
            have HR : Hid (sb = false) := Lib.hid (by rw [HB.out, hg4]; rfl)
            clear HB e1
            go_wp2
            go_ret
            exact ⟨by rw [HR.out]; rfl, Below.refl _ _⟩
        · have hg2 : decide (xs.length ≤ 40) = false := decide_eq_false e2
          have hg3 : decide ((xs.length : Int) ≤ 40) = false := decide_eq_false (by omega)
          have HR : Hid (sb = false) := Lib.hid (by rw [HB.out, hg2]; rfl)
          clear HB e1
          go_wp2
          go_ret
          exact ⟨by rw [HR.out]; rfl, Below.refl _ _⟩

end Go.Proofs.YtjnefacdindamaaGreatDoor
