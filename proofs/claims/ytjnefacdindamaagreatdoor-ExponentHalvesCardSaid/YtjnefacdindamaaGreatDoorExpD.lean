import Derived.Test.YtjnefacdindamaaGreatDoorExpN
import Derived.Test.YtjnefacdindamaaGreatDoorMemA
/- Slices of secrets; the document's Secret. Condition: the slices read so. -/
namespace Go.Proofs.YtjnefacdindamaaGreatDoor
open Go Go.RowKit
set_option linter.unusedVariables false
set_option maxRecDepth 100000

abbrev dC (d : Dr) : List Value := [.int .i64 d.1.1, .int .i64 d.1.2, .string (tx d.2.1), .int .i64 d.2.2]
/-- Cells are a secret. -/
def IsD : Rd Dr := fun _ _ d cs => cs = dC d ∧ d.2.1.length ≤ maxLen
theorem keeps_D : Keeps IsD := fun _ _ _ _ _ _ h _ _ => h
theorem opens_D : Opens Tryz.prog 41 IsD := fun enc w fuel cs x h => by
  obtain ⟨⟨a, b, c, e⟩, ha, hb, hc, he⟩ := opens_struct (R := Both 2 IsM (Both 1 IsStr (Both 1 (IsInt .i64) Nought))) Tryz.underlying41 (by kernel_rfl) (opensF_cons rfl (by kernel_rfl) opens_M (opensF_cons rfl (by kernel_rfl) (opens_str Tryz.underlying9) (opensF_cons rfl (by kernel_rfl) (opens_int Tryz.underlying3) (opensF_nil 4)))) enc w fuel cs x h
  refine ⟨(a, b, c), ?_⟩
  match cs, ha, hb, hc, he with
  | [u, v, s, t], ha, hb, hc, he =>
    simp [IsInt, IsStr, IsM] at ha hb hc
    refine ⟨?_, hb.2⟩
    show _ = _
    rw [ha.1, ha.2, hb.1, hc.1]
abbrev Draws : Rd (List Dr) := SliceOf 4 IsD
theorem keeps_draws : Keeps Draws := keeps_slice keeps_D
theorem opens_draws : Opens Tryz.prog 23 Draws := opens_slice Tryz.underlying23 (by kernel_rfl) (by decide) opens_D
theorem draws_at {n : Nat} {w : World} {ds : List Dr} {v : Value} (h : Draws n w ds [v]) :
    ∃ A cap, v = .slice A ds.length cap ∧ ds.length ≤ cap ∧ cap ≤ maxLen ∧ ∀ i, (hi : i < ds.length) → ∃ b off, A = some ⟨b, off, none⟩ ∧ b < n ∧ w.cell? ⟨b, off + i * 4, none⟩ = some (.int .i64 ds[i].1.1) ∧ w.cell? ⟨b, off + i * 4 + 1, none⟩ = some (.int .i64 ds[i].1.2) ∧ w.cell? ⟨b, off + i * 4 + 2, none⟩ = some (.string (tx ds[i].2.1)) ∧ w.cell? ⟨b, off + i * 4 + 3, none⟩ = some (.int .i64 ds[i].2.2) := by
  obtain ⟨A, cap, e, h1, h2, _, h3⟩ := h
  simp only [List.cons.injEq, and_true] at e
  refine ⟨A, cap, e, h1, h2, fun i hi => ?_⟩
  obtain ⟨b, off, rfl, hb, hc⟩ := h3 (by omega)
  obtain ⟨es, hl, hcell, hr⟩ := hc i hi
  have hr : es = _ := hr.1
  subst hr
  exact ⟨b, off, rfl, hb, by simpa using hcell 0 (by omega), by simpa using hcell 1 (by omega), by simpa using hcell 2 (by omega), by simpa using hcell 3 (by omega)⟩
theorem draws_len {n : Nat} {w : World} {ds : List Dr} {v : Value} (h : Draws n w ds [v]) (m : Nat) (hm : ds.length = m) : ∃ A cap, v = .slice A m cap ∧ m ≤ cap ∧ cap ≤ 9223372036854775807 := by
  obtain ⟨A, cap, e, h1, h2, _⟩ := draws_at h
  subst hm
  exact ⟨A, cap, e, h1, Nat.le_trans h2 (by decide)⟩
theorem secL_step {ds : List Dr} {k : Nat} {m : Int × Int} (h : k < ds.length) (hn : ds[k].1 ≠ m) (hs : secL ds m = secL (ds.drop k) m) : secL ds m = secL (ds.drop (k + 1)) m := by
  rw [hs, List.drop_eq_getElem_cons h]
  simp only [secL]
  rw [if_neg hn]
theorem secL_here {ds : List Dr} {k : Nat} {m : Int × Int} (h : k < ds.length) (hn : ds[k].1 = m) (hs : secL ds m = secL (ds.drop k) m) : secL ds m = ds[k].2.1 := by
  rw [hs, List.drop_eq_getElem_cons h]
  simp only [secL]
  rw [if_pos hn]
theorem secL_off {ds : List Dr} {k : Nat} {m : Int × Int} (h : ds.length ≤ k) (hs : secL ds m = secL (ds.drop k) m) : secL ds m = [] := by
  rw [hs, List.drop_of_length_le h]; rfl
set_option maxRecDepth 100000 in
set_option maxHeartbeats 4000000 in
theorem refSecret_any (v : Value) (ds : List Dr) (a b : Int) (w : World) (h : Draws w.heap.size w ds [v]) :
    Calls Tryz.prog 15 #[v, vM a b] w fun e W' => e = .returned (.string (tx (secL ds (a, b)))) ∧ Below w.heap.size w W' := by
  obtain ⟨A, cap, rfl, hlc, hcm, hp⟩ := draws_at h
  have HP := Lib.hid hp
  have hcm2 : cap ≤ 9223372036854775807 := Nat.le_trans hcm (by decide)
  clear hp h hcm
  go_enter Tryz.func15, Tryz.ntmps15
  go_wp2_with fail
  obtain ⟨W0, hW0, hR, B⟩ : ∃ W0, w.alloc (.cells #[.int .i64 a, .int .i64 b] 29) = W0 ∧ Box W0 w.heap.size [.int .i64 a, .int .i64 b] ∧ Below w.heap.size w W0 := ⟨_, rfl, Box.new w _ _, below_new _ _⟩
  rw [hW0]
  clear hW0
  go_loopw [5] (fun i wr => ∃ k : Nat, k ≤ ds.length ∧ i = .int .i64 k ∧ Hid (secL ds (a, b) = secL (ds.drop k) (a, b)) ∧ Box wr w.heap.size [.int .i64 a, .int .i64 b] ∧ Below w.heap.size w wr)
    (fun i _ => ds.length - (intOf i).toNat)
  case atStart => exact ⟨0, Nat.zero_le _, rfl, Lib.hid rfl, hR, B⟩
  case round =>
    obtain ⟨k, hk, rfl, HS, hR, B⟩ := hrel
    have c0 := hR.c 0 _ rfl
    have c1 := hR.c 1 _ rfl
    by_cases hlt : k < ds.length
    · have hd : decide (k < ds.length) = true := by simpa using hlt
      have hi : (k : Int) < (ds.length : Int) := by omega
      obtain ⟨g, off, rfl, hbn, hc0, hc1, hc2, hc3⟩ := HP.out k hlt
      have hk0 := (B.cell (p := ⟨g, off + k * 4, none⟩) hbn).trans hc0
      have hk1 := (B.cell (p := ⟨g, off + k * 4 + 1, none⟩) hbn).trans hc1
      have hk2 := (B.cell (p := ⟨g, off + k * 4 + 2, none⟩) hbn).trans hc2
      have hne : g ≠ w.heap.size := by omega
      have hge : (0 : Int) ≤ (k : Int) := by omega
      have H1 := Lib.hid (fun hn => secL_step (m := (a, b)) hlt hn HS.out)
      have H2 := Lib.hid (fun hn => secL_here (m := (a, b)) hlt hn HS.out)
      obtain ⟨⟨⟨x, y⟩, s, t⟩, hx⟩ : ∃ p : Dr, ds[k] = p := ⟨_, rfl⟩
      rw [hx] at hk0 hk1 hk2 H1 H2
      simp only at hk2
      clear hc0 hc1 hc2 hc3 hx
      by_cases h1 : a = x
      · subst h1
        by_cases h2 : b = y
        · subst h2
          have HR : Hid (secL ds (a, b) = s) := Lib.hid (H2.out rfl)
          clear H1 H2
          go_wp2_with fail
          go_quiet (fail)
          go_wp2
          go_ret
          exact ⟨by rw [HR.out]; rfl, B.trans ⟨rfl, rfl, rfl, Nat.le_refl _, fun _ _ => rfl⟩⟩
        · have HN := Lib.hid (H1.out (fun e => h2 (by injection e with _ e2; exact e2.symm)))
          clear H1 H2
          go_wp2_with fail
          go_quiet (fail)
          go_wp2
          go_roundw
          case rel => exact ⟨k + 1, by omega, by go_num, HN, hR.keep rfl, B.trans ⟨rfl, rfl, rfl, Nat.le_refl _, fun _ _ => rfl⟩⟩
          case measure => simp [intOf]; omega
      · have HN := Lib.hid (H1.out (fun e => h1 (by injection e with e1 _; exact e1.symm)))
        clear H1 H2
        go_wp2_with fail
        go_quiet (fail)
        go_wp2
        go_roundw
        case rel => exact ⟨k + 1, by omega, by go_num, HN, hR.keep rfl, B.trans ⟨rfl, rfl, rfl, Nat.le_refl _, fun _ _ => rfl⟩⟩
        case measure => simp [intOf]; omega
    · have hd : decide (k < ds.length) = false := by simpa using hlt
      have HR : Hid (secL ds (a, b) = []) := Lib.hid (secL_off (by omega) HS.out)
      have HT : Hid (ByteArray.mk #[] = tx []) := Lib.hid (by rw [tx_is])
      go_wp2
      go_ret
      exact ⟨by rw [HR.out, ← HT.out]; rfl, B⟩

end Go.Proofs.YtjnefacdindamaaGreatDoor
