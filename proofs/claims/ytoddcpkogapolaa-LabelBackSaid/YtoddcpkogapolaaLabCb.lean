/- The code's way down: where halves begin, where a spot is there first. Condition: the slice reads as spots, of at most a million. -/
import Derived.Test.YtoddcpkogapolaaLabCa
import Derived.Test.YtoddcpkogapolaaTreeX
namespace Go.Proofs.Ytoddcpkogapolaa
open Go Go.RowKit
set_option linter.unusedVariables false

set_option maxRecDepth 100000 in
set_option maxHeartbeats 4000000 in
theorem half_any (v : Value) (xs : List Sp) (p : Int) (c : Bool) (w : World) (h : Spots w.heap.size w xs [v]) (hn : xs.length ≤ 1000000) (hp1 : p < (xs.length : Int)) (hp0 : -1000000 ≤ p) :
    Calls Try.prog 34 #[v, .int .i64 p, .bool c] w fun e W' => e = .returned (.int .i64 (halfI xs p c)) ∧ Below w.heap.size w W' := by
  have HX := Lib.hid h
  obtain ⟨A, cap, rfl, hlc, hcm, hp⟩ := spots_at h
  have hcm2 : cap ≤ 9223372036854775807 := Nat.le_trans hcm (by decide)
  clear h hcm
  by_cases h0 : p < 0
  · have HE : Hid (halfI xs p c = -1) := Lib.hid (by unfold halfI; rw [if_pos h0])
    clear hp
    go_enter Try.func34, Try.ntmps34
    go_wp2
    go_ret
    exact ⟨rint HE.out.symm, Below.refl _ _⟩
  · obtain ⟨o, rfl⟩ := Int.eq_ofNat_of_zero_le (show 0 ≤ p by omega)
    have hol : o < xs.length := by omega
    obtain ⟨g, off, rfl, hbn, k0, -, -⟩ := hp o hol
    have hgo : (0 : Int) ≤ (o : Int) := by omega
    have hg : xs.getD o (true, 0, 0) = xs[o] := by simp [hol]
    have HH : Hid (halfI xs (o : Int) c = if xs[o].1 then -1 else if c then endI xs ((o : Int) + 1) else (o : Int) + 1) := Lib.hid (by unfold halfI; rw [if_neg h0, Int.toNat_natCast, hg])
    clear hp hg h0
    obtain ⟨⟨b, x, y⟩, hb⟩ : ∃ b, xs[o] = b := ⟨_, rfl⟩
    rw [hb] at k0 HH
    clear hb
    have hle : (o : Int) ≤ 1000000 := by omega
    cases b
    · cases c
      · go_enter Try.func34, Try.ntmps34
        go_wp2
        go_ret
        exact ⟨rint HH.out.symm, Below.refl _ _⟩
      · go_enter Try.func34, Try.ntmps34
        go_wp2_with fail
        refine (end_any _ xs ((o : Int) + 1) w HX.out hn).mono ?_
        rintro e W1 ⟨rfl, B⟩
        go_wp2
        go_ret
        exact ⟨rint HH.out.symm, B⟩
    · go_enter Try.func34, Try.ntmps34
      go_wp2
      go_ret
      exact ⟨rint HH.out.symm, Below.refl _ _⟩

set_option maxRecDepth 100000 in
set_option maxHeartbeats 4000000 in
theorem index_any (v : Value) (xs : List Sp) (s : Sp) (w : World) (h : Spots w.heap.size w xs [v]) (hn : xs.length ≤ 1000000) :
    Calls Try.prog 38 #[v, vS s] w fun e W' => e = .returned (.int .i64 (ixF s 0 xs)) ∧ Below w.heap.size w W' := by
  obtain ⟨A, cap, rfl, hlc, hcm, hp⟩ := spots_at h
  have HP := Lib.hid hp
  have hcm2 : cap ≤ 9223372036854775807 := Nat.le_trans hcm (by decide)
  clear hp h hcm
  obtain ⟨sb, sx, sy⟩ := s
  go_enter Try.func38, Try.ntmps38
  go_wp2_with fail
  obtain ⟨W0, hW0, b0, B0⟩ : ∃ W0, w.alloc (.cells #[.bool sb, .int .i64 sx, .int .i64 sy] 52) = W0 ∧ Box W0 w.heap.size [.bool sb, .int .i64 sx, .int .i64 sy] ∧ Below w.heap.size w W0 := ⟨_, rfl, Box.new w _ _, below_new _ _⟩
  rw [hW0]
  clear hW0
  go_loopw [8] (fun i wr => ∃ k : Nat, k ≤ xs.length ∧ i = .int .i64 k ∧ Hid (ixF (sb, sx, sy) 0 xs = ixF (sb, sx, sy) k (xs.drop k)) ∧ Box wr w.heap.size [.bool sb, .int .i64 sx, .int .i64 sy] ∧ Below w.heap.size w wr) (fun i _ => xs.length - (intOf i).toNat)
  case atStart => exact ⟨0, Nat.zero_le _, rfl, Lib.hid rfl, b0, B0⟩
  case round =>
    obtain ⟨k, hk, rfl, HA, bx, B⟩ := hrel
    by_cases hlt : k < xs.length
    · have hd : decide (k < xs.length) = true := by simpa using hlt
      have hi : (k : Int) < (xs.length : Int) := by omega
      have hge : (0 : Int) ≤ (k : Int) := by omega
      obtain ⟨g, off, rfl, hbn, hc0, hc1, hc2⟩ := HP.out k hlt
      have k0 := (B.cell (p := ⟨g, off + k * 3, none⟩) hbn).trans hc0
      have k1 := (B.cell (p := ⟨g, off + k * 3 + 1, none⟩) hbn).trans hc1
      have k2 := (B.cell (p := ⟨g, off + k * 3 + 2, none⟩) hbn).trans hc2
      have q0 := bx.c 0 _ rfl
      have q1 := bx.c 1 _ rfl
      have q2 := bx.c 2 _ rfl
      clear hc0 hc1 hc2
      have HX := Lib.hid (ixF_step (sb, sx, sy) xs k hlt)
      obtain ⟨⟨b, x, y⟩, hb⟩ : ∃ b, xs[k] = b := ⟨_, rfl⟩
      rw [hb] at k0 k1 k2 HX
      clear hb
      simp only at k0 k1 k2
      by_cases hne : (b, x, y) = (sb, sx, sy)
      · have HR : Hid (ixF (sb, sx, sy) 0 xs = (k : Int)) := Lib.hid (by rw [HA.out, HX.out, if_pos hne])
        obtain ⟨rfl, rfl, rfl⟩ : b = sb ∧ x = sx ∧ y = sy := by simpa using hne
        clear hne bx
        go_wp2_with fail
        go_quiet (fail)
        go_wp2
        go_ret
        exact ⟨rint HR.out.symm, B.trans ⟨rfl, rfl, rfl, Nat.le_refl _, fun _ _ => rfl⟩⟩
      · have HR : Hid (ixF (sb, sx, sy) 0 xs = ixF (sb, sx, sy) (k + 1) (xs.drop (k + 1))) := Lib.hid (by rw [HA.out, HX.out, if_neg hne])
        have hne' : sb = b → sx = x → sy = y → False := fun e1 e2 e3 => hne (by rw [e1, e2, e3])
        clear hne
        by_cases e1 : sb = b
        · subst e1
          by_cases e2 : sx = x
          · subst e2
            have e3 : ¬ sy = y := fun e => hne' rfl rfl e
            clear hne'
            go_wp2_with fail
            go_quiet (fail)
            go_wp2
            go_roundw
            case rel => exact ⟨k + 1, by omega, by go_num, HR, bx.keep rfl, B.trans ⟨rfl, rfl, rfl, Nat.le_refl _, fun _ _ => rfl⟩⟩
            case measure => simp [intOf]; omega
          · clear hne'
            go_wp2_with fail
            go_quiet (fail)
            go_wp2
            go_roundw
            case rel => exact ⟨k + 1, by omega, by go_num, HR, bx.keep rfl, B.trans ⟨rfl, rfl, rfl, Nat.le_refl _, fun _ _ => rfl⟩⟩
            case measure => simp [intOf]; omega
        · clear hne'
          go_wp2_with fail
          go_quiet (fail)
          go_wp2
          go_roundw
          case rel => exact ⟨k + 1, by omega, by go_num, HR, bx.keep rfl, B.trans ⟨rfl, rfl, rfl, Nat.le_refl _, fun _ _ => rfl⟩⟩
          case measure => simp [intOf]; omega
    · have hd : decide (k < xs.length) = false := by simpa using hlt
      go_wp2
      go_ret
      exact ⟨rint (by rw [HA.out, ixF_off _ _ _ (by omega)]), B⟩

end Go.Proofs.Ytoddcpkogapolaa
