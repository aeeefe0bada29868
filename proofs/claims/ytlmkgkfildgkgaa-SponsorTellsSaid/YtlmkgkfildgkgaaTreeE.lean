import Derived.Test.YtlmkgkfildgkgaaTreeN
import Derived.Test.YtlmkgkfildgkgaaMemH
import Derived.Test.YtlmkgkfildgkgaaOwn
/- Slices of spots; where parts end: lodge/tree's and the document's. Condition: the slice reads as spots. -/
namespace Go.Proofs.Ytlmkgkfildgkgaa
open Go.RowKit
set_option linter.unusedVariables false

abbrev spC (s : Sp) : List Value := [.bool s.1, .int .i64 s.2.1, .int .i64 s.2.2]
abbrev vS (s : Sp) : Value := .agg #[.bool s.1, .int .i64 s.2.1, .int .i64 s.2.2]
/-- Cells are a spot. -/
def IsS : Rd Sp := fun _ _ s cs => cs = spC s
theorem keeps_S : Keeps IsS := fun _ _ _ _ _ _ h _ _ => h
theorem opens_S : Opens Try.prog 41 IsS := fun enc w fuel cs x h => by
  obtain ⟨⟨f, m, c⟩, ha, hb, hc⟩ := opens_struct (R := Both 1 IsBool (Both 2 IsM Nought)) Try.underlying41 (by kernel_rfl) (opensF_cons rfl (by kernel_rfl) (opens_bool Try.underlying4) (opensF_cons rfl (by kernel_rfl) opens_M (opensF_nil 3))) enc w fuel cs x h
  refine ⟨(f, m.1, m.2), ?_⟩
  simp only [IsM, Nought] at hb hc
  match cs, ha, hb, hc with
  | [u, v, t], ha, hb, hc =>
    simp [IsBool] at ha hb
    show _ = _
    rw [ha, hb.1, hb.2]
/-- A slice of spots. -/
abbrev Spots : Rd (List Sp) := SliceOf 3 IsS
theorem keeps_spots : Keeps Spots := keeps_slice keeps_S
theorem opens_spots : Opens Try.prog 22 Spots := opens_slice Try.underlying22 (by kernel_rfl) (by decide) opens_S
theorem spots_at {n : Nat} {w : World} {xs : List Sp} {v : Value} (h : Spots n w xs [v]) :
    ∃ A cap, v = .slice A xs.length cap ∧ xs.length ≤ cap ∧ cap ≤ maxLen ∧ ∀ i, (hi : i < xs.length) → ∃ b off, A = some ⟨b, off, none⟩ ∧ b < n ∧ w.cell? ⟨b, off + i * 3, none⟩ = some (.bool xs[i].1) ∧ w.cell? ⟨b, off + i * 3 + 1, none⟩ = some (.int .i64 xs[i].2.1) ∧ w.cell? ⟨b, off + i * 3 + 2, none⟩ = some (.int .i64 xs[i].2.2) := by
  obtain ⟨A, cap, e, h1, h2, _, h3⟩ := h
  simp only [List.cons.injEq, and_true] at e
  refine ⟨A, cap, e, h1, h2, fun i hi => ?_⟩
  obtain ⟨b, off, rfl, hb, hc⟩ := h3 (by omega)
  obtain ⟨es, hl, hcell, hr⟩ := hc i hi
  have hr : es = _ := hr
  subst hr
  exact ⟨b, off, rfl, hb, hcell 0 (by omega), hcell 1 (by omega), hcell 2 (by omega)⟩
theorem fin_step (o i : Nat) (l : List Sp) (h : i < l.length) : fin o i (l.drop i) = if (if l[i].1 then o - 1 else o + 1) = 0 then ((i + 1 : Nat) : Int) else fin (if l[i].1 then o - 1 else o + 1) (i + 1) (l.drop (i + 1)) := by
  rw [List.drop_eq_getElem_cons h, fin]
theorem fin_off (o i : Nat) (l : List Sp) (h : l.length ≤ i) : fin o i (l.drop i) = -1 := by
  rw [List.drop_of_length_le h, fin]

set_option maxRecDepth 100000 in
set_option maxHeartbeats 4000000 in
theorem refEnd_any (v : Value) (xs : List Sp) (p : Int) (w : World) (h : Spots w.heap.size w xs [v]) (hn : xs.length ≤ 1000000) :
    Calls Try.prog 26 #[v, .int .i64 p] w fun e W' => e = .returned (.int .i64 (endI xs p)) ∧ w = W' := by
  obtain ⟨A, cap, rfl, hlc, hcm, hp⟩ := spots_at h
  have HP := Lib.hid hp
  have hcm2 : cap ≤ 9223372036854775807 := Nat.le_trans hcm (by decide)
  clear hp h hcm
  by_cases h0 : 0 ≤ p
  · obtain ⟨q, rfl⟩ := Int.eq_ofNat_of_zero_le h0
    have HE : Hid (endI xs ((q : Nat) : Int) = fin 1 q (xs.drop q)) := Lib.hid (by simp [endI])
    have hmx : max ((q : Nat) : Int) 0 = (q : Int) := by omega
    go_enter Try.func26, Try.ntmps26
    go_wp2_with fail
    clear hmx
    go_loop [5, 6] (fun o i => ∃ a k : Nat, q ≤ k ∧ (k ≤ xs.length ∨ k = q) ∧ 1 ≤ a ∧ a + q ≤ k + 1 ∧ o = .int .i64 a ∧ i = .int .i64 k ∧ Hid (fin 1 q (xs.drop q) = fin a k (xs.drop k))) (fun _ i => xs.length - (intOf i).toNat)
    case atStart => exact ⟨1, q, Nat.le_refl _, Or.inr rfl, Nat.le_refl _, by omega, rfl, rfl, Lib.hid rfl⟩
    case round =>
      obtain ⟨a, k, hqk, hkl, ha, hak, rfl, rfl, HF⟩ := hrel
      by_cases hlt : k < xs.length
      · have hd : decide (k < xs.length) = true := by simpa using hlt
        have hi : (k : Int) < (xs.length : Int) := by omega
        have hge : (0 : Int) ≤ (k : Int) := by omega
        obtain ⟨g, off, rfl, hbn, hc0, _, _⟩ := HP.out k hlt
        have HS := Lib.hid (fin_step a k xs hlt)
        obtain ⟨b, hb⟩ : ∃ b, xs[k].1 = b := ⟨_, rfl⟩
        have HB := Lib.hid hb
        rw [hb] at hc0
        clear hb
        cases b
        · have h1 : ¬ (a + 1 = 0) := by omega
          have h2 : (((a : Nat) : Int) + 1 == 0) = false := by simp; omega
          go_wp2
          go_round
          case rel => exact ⟨a + 1, k + 1, by omega, by omega, by omega, by omega, by go_num, by go_num, Lib.hid (by rw [HF.out, HS.out, HB.out]; simp)⟩
          case measure => simp [intOf]; omega
        · by_cases h1 : a = 1
          · subst h1
            go_wp2
            go_ret
            exact ⟨rint (by rw [HE.out, HF.out, HS.out, HB.out]; simp), rfl⟩
          · have h2 : (((a : Nat) : Int) - 1 == 0) = false := by simp; omega
            have h3 : ((a : Nat) : Int) - 1 = ((a - 1 : Nat) : Int) := by omega
            have H3 := Lib.hid h3
            clear h3
            go_wp2
            go_round
            case rel => exact ⟨a - 1, k + 1, by omega, by omega, by omega, by omega, by rw [H3.out], by go_num, Lib.hid (by rw [HF.out, HS.out, HB.out]; simp; omega)⟩
            case measure => simp [intOf]; omega
      · have hd : decide (k < xs.length) = false := by simpa using hlt
        go_wp2
        go_ret
        exact ⟨rint (by rw [HE.out, HF.out, fin_off _ _ _ (by omega)]), rfl⟩
  · have HE : Hid (endI xs p = -1) := Lib.hid (by simp [endI, h0])
    have hmx : max p 0 = 0 := by omega
    have h0' : decide (0 ≤ p) = false := by simpa using h0
    go_enter Try.func26, Try.ntmps26
    go_wp2_with fail
    clear hmx
    go_loop [5, 6] (fun o i => o = .int .i64 1 ∧ i = .int .i64 0) (fun _ i => 0)
    case atStart => exact ⟨rfl, rfl⟩
    case round =>
      obtain ⟨rfl, rfl⟩ := hrel
      by_cases hlt : 0 < xs.length
      · go_wp2
        go_ret
        exact ⟨rint HE.out.symm, rfl⟩
      · go_wp2
        go_ret
        exact ⟨rint HE.out.symm, rfl⟩

set_option maxRecDepth 100000 in
set_option maxHeartbeats 4000000 in
theorem end_any (v : Value) (xs : List Sp) (p : Int) (w : World) (h : Spots w.heap.size w xs [v]) (hn : xs.length ≤ 1000000) :
    Calls Try.prog 31 #[v, .int .i64 p] w fun e W' => e = .returned (.int .i64 (endI xs p)) ∧ Below w.heap.size w W' := by
  obtain ⟨A, cap, rfl, hlc, hcm, hp⟩ := spots_at h
  have hcm2 : cap ≤ 9223372036854775807 := Nat.le_trans hcm (by decide)
  by_cases h0 : 0 ≤ p
  · obtain ⟨q, rfl⟩ := Int.eq_ofNat_of_zero_le h0
    by_cases hq : q < xs.length
    · have HE : Hid (endI xs ((q : Nat) : Int) = fin 1 q (xs.drop q)) := Lib.hid (by simp [endI])
      have hS := slice_cut h q xs.length (by omega) (Nat.le_refl _)
      have hcut : sliced A q xs.length cap 3 = .slice (A.map (·.add (q * 3))) (xs.length - q) (cap - q) := by
        unfold sliced
        rw [if_neg (by omega)]
      rw [hcut] at hS
      have hl2 : ((xs.drop q).take (xs.length - q)) = xs.drop q := by rw [List.take_of_length_le (by simp)]
      rw [hl2] at hS
      obtain ⟨A', cap', e', hlc', hcm', hp'⟩ := spots_at hS
      have hrun : ∀ wx, (Instr.slice 22 (.slice A xs.length cap) (some (.int .i64 (q : Int))) none none).run Try.prog wx = .ok (.slice (A.map (·.add (q * 3))) (xs.length - q) (cap - q)) wx := fun wx => by
        rw [run_slice_l _ _ _ _ _ Try.underlying22 _ _ (by omega) (by omega)]
        rw [← hcut]
        simp [go_sem]
      rw [e'] at hrun
      have hy1 : (xs.drop q).length + q ≤ 1000000 := by simp; omega
      generalize xs.drop q = ys at *
      have HP := Lib.hid hp'
      have hcm3 : cap' ≤ 9223372036854775807 := Nat.le_trans hcm' (by decide)
      clear hp hp' h hS hcut hl2 e' hcm hcm'
      go_enter Try.func31, Try.ntmps31
      go_wp2_with fail
      clear hrun
      go_loopw [5, 20] (fun o i wr => ∃ a k : Nat, k ≤ ys.length ∧ 1 ≤ a ∧ a ≤ k + 1 ∧ o = .int .i64 a ∧ i = .int .i64 k ∧ Hid (fin 1 q ys = fin a (q + k) (ys.drop k)) ∧ Below w.heap.size w wr) (fun _ i _ => ys.length - (intOf i).toNat)
      case atStart => exact ⟨1, 0, Nat.zero_le _, Nat.le_refl _, by omega, rfl, rfl, Lib.hid rfl, Below.refl _ _⟩
      case round =>
        obtain ⟨a, k, hk, ha, hak, rfl, rfl, HF, B⟩ := hrel
        by_cases hlt : k < ys.length
        · have hd : decide (k < ys.length) = true := by simpa using hlt
          have hi : (k : Int) < (ys.length : Int) := by omega
          have hge : (0 : Int) ≤ (k : Int) := by omega
          obtain ⟨g, off, rfl, hbn, hc0, hc1, hc2⟩ := HP.out k hlt
          have HS : Hid (fin a (q + k) (ys.drop k) = if (if ys[k].1 then a - 1 else a + 1) = 0 then ((q + (k + 1) : Nat) : Int) else fin (if ys[k].1 then a - 1 else a + 1) (q + (k + 1)) (ys.drop (k + 1))) := Lib.hid (by rw [List.drop_eq_getElem_cons hlt, fin]; rfl)
          have k0 := (B.cell (p := ⟨g, off + k * 3, none⟩) hbn).trans hc0
          have k1 := (B.cell (p := ⟨g, off + k * 3 + 1, none⟩) hbn).trans hc1
          have k2 := (B.cell (p := ⟨g, off + k * 3 + 2, none⟩) hbn).trans hc2
          clear hc0 hc1 hc2
          obtain ⟨⟨b, x, y⟩, hb⟩ : ∃ b, ys[k] = b := ⟨_, rfl⟩
          have HB := Lib.hid hb
          rw [hb] at k0 k1 k2
          clear hb
          simp only at k0 k1 k2
          cases b
          · have h2 : (((a : Nat) : Int) + 1 == 0) = false := by simp; omega
            go_wp2
            go_roundw
            case rel => exact ⟨a + 1, k + 1, by omega, by omega, by omega, by go_num, by go_num, Lib.hid (by rw [HF.out, HS.out, HB.out]; simp), B.alloc B.size _⟩
            case measure => simp [intOf]; omega
          · by_cases h1 : a = 1
            · subst h1
              go_wp2
              go_ret
              exact ⟨rint (by rw [HE.out, HF.out, HS.out, HB.out]; simp [Int.add_assoc]), B.alloc B.size _⟩
            · have h2 : (((a : Nat) : Int) - 1 == 0) = false := by simp; omega
              have h3 : ((a : Nat) : Int) - 1 = ((a - 1 : Nat) : Int) := by omega
              have H3 := Lib.hid h3
              clear h3
              go_wp2
              go_roundw
              case rel => exact ⟨a - 1, k + 1, by omega, by omega, by omega, by rw [H3.out], by go_num, Lib.hid (by rw [HF.out, HS.out, HB.out]; simp; omega), B.alloc B.size _⟩
              case measure => simp [intOf]; omega
        · have hd : decide (k < ys.length) = false := by simpa using hlt
          go_wp2
          go_ret
          exact ⟨rint (by rw [HE.out, HF.out, List.drop_of_length_le (by omega), fin]), B⟩
    · have HE : Hid (endI xs ((q : Nat) : Int) = -1) := Lib.hid (by simp [endI]; exact fin_off _ _ _ (by omega))
      have hd : decide ((q : Int) ≥ (xs.length : Int)) = true := by simp; omega
      go_enter Try.func31, Try.ntmps31
      go_wp2
      go_ret
      exact ⟨rint HE.out.symm, Below.refl _ _⟩
  · have HE : Hid (endI xs p = -1) := Lib.hid (by simp [endI, h0])
    go_enter Try.func31, Try.ntmps31
    go_wp2
    go_ret
    exact ⟨rint HE.out.symm, Below.refl _ _⟩

end Go.Proofs.Ytlmkgkfildgkgaa
