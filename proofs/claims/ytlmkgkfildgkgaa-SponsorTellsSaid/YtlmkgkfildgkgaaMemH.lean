import Derived.Test.YtlmkgkfildgkgaaMem
import Derived.Test.YtlmkgkfildgkgaaOpens
import Derived.Test.YtlmkgkfildgkgaaTurn
/- Whether a member is among others; lodge/member's, slices.Contains's and Index's, and the document's. Condition: the slice reads as members. -/
namespace Go.Proofs.Ytlmkgkfildgkgaa
open Go.RowKit
set_option linter.unusedVariables false

/-- Cells are a member. -/
def IsM : Rd (Int × Int) := fun _ _ m cs => cs = [.int .i64 m.1, .int .i64 m.2]
theorem keeps_M : Keeps IsM := fun _ _ _ _ _ _ h _ _ => h
theorem opens_M : Opens Try.prog 26 IsM := fun enc w fuel cs x h => by
  obtain ⟨⟨a, b, c⟩, ha, hb, hc⟩ := opens_struct (R := Both 1 (IsInt .i64) (Both 1 (IsInt .i64) Nought)) Try.underlying26 (by kernel_rfl) (opensF_cons rfl (by kernel_rfl) (opens_int Try.underlying3) (opensF_cons rfl (by kernel_rfl) (opens_int Try.underlying3) (opensF_nil 2))) enc w fuel cs x h
  refine ⟨(a, b), ?_⟩
  match cs, ha, hb, hc with
  | [u, v], ha, hb, hc => 
    simp [IsInt] at ha hb
    show _ = _
    rw [ha.1, hb.1]
/-- A slice of members. -/
abbrev Mems : Rd (List (Int × Int)) := SliceOf 2 IsM
theorem keeps_mems : Keeps Mems := keeps_slice keeps_M
theorem opens_mems : Opens Try.prog 35 Mems := opens_slice Try.underlying35 (by kernel_rfl) (by decide) opens_M
theorem mems_at {n : Nat} {w : World} {xs : List (Int × Int)} {v : Value} (h : Mems n w xs [v]) :
    ∃ A cap, v = .slice A xs.length cap ∧ xs.length ≤ cap ∧ cap ≤ maxLen ∧ ∀ i, (hi : i < xs.length) → ∃ b off, A = some ⟨b, off, none⟩ ∧ b < n ∧ w.cell? ⟨b, off + i * 2, none⟩ = some (.int .i64 xs[i].1) ∧ w.cell? ⟨b, off + i * 2 + 1, none⟩ = some (.int .i64 xs[i].2) := by
  obtain ⟨A, cap, e, h1, h2, _, h3⟩ := h
  simp only [List.cons.injEq, and_true] at e
  refine ⟨A, cap, e, h1, h2, fun i hi => ?_⟩
  obtain ⟨b, off, rfl, hb, hc⟩ := h3 (by omega)
  obtain ⟨es, hl, hcell, hr⟩ := hc i hi
  have hr : es = _ := hr
  subst hr
  exact ⟨b, off, rfl, hb, hcell 0 (by omega), hcell 1 (by omega)⟩


set_option maxRecDepth 100000 in
set_option maxHeartbeats 4000000 in
theorem refHas_any (v : Value) (xs : List (Int × Int)) (a b : Int) (w : World) (h : Mems w.heap.size w xs [v]) :
    Calls Try.prog 28 #[v, vM a b] w fun e W' => e = .returned (.bool (decide ((a, b) ∈ xs))) ∧ Below w.heap.size w W' := by
  obtain ⟨A, cap, rfl, hlc, hcm, hp⟩ := mems_at h
  have HP := Lib.hid hp
  have hcm2 : cap ≤ 9223372036854775807 := Nat.le_trans hcm (by decide)
  clear hp h hcm
  go_enter Try.func28, Try.ntmps28
  go_wp2_with fail
  obtain ⟨W0, hW0, hR, B⟩ : ∃ W0, w.alloc (.cells #[.int .i64 a, .int .i64 b] 26) = W0 ∧ Box W0 w.heap.size [.int .i64 a, .int .i64 b] ∧ Below w.heap.size w W0 := ⟨_, rfl, Box.new w _ _, below_new _ _⟩
  rw [hW0]
  clear hW0
  go_loopw [5] (fun i wr => ∃ k : Nat, k ≤ xs.length ∧ i = .int .i64 k ∧ (∀ j : Nat, j < k → xs[j]? ≠ some (a, b)) ∧ Box wr w.heap.size [.int .i64 a, .int .i64 b] ∧ Below w.heap.size w wr)
    (fun i _ => xs.length - (intOf i).toNat)
  case atStart => exact ⟨0, Nat.zero_le _, rfl, (fun j hj => absurd hj (by omega)), hR, B⟩
  case round =>
    obtain ⟨k, hk, rfl, hno, hR, B⟩ := hrel
    have c0 := hR.c 0 _ rfl
    have c1 := hR.c 1 _ rfl
    by_cases hlt : k < xs.length
    · have hd : decide (k < xs.length) = true := by simpa using hlt
      have hi : (k : Int) < (xs.length : Int) := by omega
      obtain ⟨g, off, rfl, hbn, hc0, hc1⟩ := HP.out k hlt
      have hk0 := (B.cell (p := ⟨g, off + k * 2, none⟩) hbn).trans hc0
      have hk1 := (B.cell (p := ⟨g, off + k * 2 + 1, none⟩) hbn).trans hc1
      have hne : g ≠ w.heap.size := by omega
      have hge : (0 : Int) ≤ (k : Int) := by omega
      obtain ⟨⟨x, y⟩, hx⟩ : ∃ p : Int × Int, xs[k] = p := ⟨_, rfl⟩
      rw [hx] at hk0 hk1
      by_cases h1 : a = x
      · subst h1
        by_cases h2 : b = y
        · subst h2
          go_wp2_with fail
          go_quiet (fail)
          go_wp2
          go_ret
          have hm : (a, b) ∈ xs := hx ▸ List.getElem_mem hlt
          exact ⟨rbool (by simp [hm]), B.trans ⟨rfl, rfl, rfl, Nat.le_refl _, fun _ _ => rfl⟩⟩
        · go_wp2_with fail
          go_quiet (fail)
          go_wp2
          go_roundw
          case rel => exact ⟨k + 1, by omega, by go_num, (fun j hj => by
            by_cases e : j = k
            · subst e
              rw [List.getElem?_eq_getElem hlt, hx]
              simp; intro e; exact h2 e.symm
            · exact hno j (by omega)), hR.keep rfl, B.trans ⟨rfl, rfl, rfl, Nat.le_refl _, fun _ _ => rfl⟩⟩
          case measure => simp [intOf]; omega
      · go_wp2_with fail
        go_quiet (fail)
        go_wp2
        go_roundw
        case rel => exact ⟨k + 1, by omega, by go_num, (fun j hj => by
          by_cases e : j = k
          · subst e
            rw [List.getElem?_eq_getElem hlt, hx]
            simp; intro e; exact absurd e.symm h1
          · exact hno j (by omega)), hR.keep rfl, B.trans ⟨rfl, rfl, rfl, Nat.le_refl _, fun _ _ => rfl⟩⟩
        case measure => simp [intOf]; omega
    · have hd : decide (k < xs.length) = false := by simpa using hlt
      go_wp2
      go_ret
      have hm : (a, b) ∉ xs := fun hm => by
        obtain ⟨j, hj⟩ := List.getElem?_of_mem hm
        have := (List.getElem?_eq_some_iff.1 hj).1
        exact hno j (by omega) hj
      exact ⟨rbool (by simp [hm]), B⟩

end Go.Proofs.Ytlmkgkfildgkgaa
