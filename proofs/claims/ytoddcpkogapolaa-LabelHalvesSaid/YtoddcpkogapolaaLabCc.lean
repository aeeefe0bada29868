/- The code's At and Part of layer 10. Condition: the slice reads as a tree's spots, or nothing's, that may be, at most 60 high. -/
import Derived.Test.YtoddcpkogapolaaLabCb
import Derived.Test.YtoddcpkogapolaaLabA
import Derived.Test.YtoddcpkogapolaaPhaseR
namespace Go.Proofs.Ytoddcpkogapolaa
open Go Go.RowKit
set_option linter.unusedVariables false

set_option maxRecDepth 100000 in
set_option maxHeartbeats 8000000 in
theorem lAt_nat (ot : Option Tr) (hn : (spo ot).length ≤ 1000000) : ∀ (k i : Nat) (v : Value) (w : World), k ≤ 60 → i < 2 ^ k → Spots w.heap.size w (spo ot) [v] →
    Calls Try.prog 16 #[v, vM (k : Int) (i : Int)] w fun e W' => e = .returned (.int .i64 (atO ot (k : Int) (i : Int))) ∧ Below w.heap.size w W'
  | 0, i, v, w, hk, hi, h => by
    obtain rfl : i = 0 := by simpa using hi
    have HX := Lib.hid h
    obtain ⟨A, cap, rfl, hlc, hcm, _⟩ := spots_at h
    have hcm2 : cap ≤ 9223372036854775807 := Nat.le_trans hcm (by decide)
    clear h hcm
    have HE : Hid (atO ot ((0 : Nat) : Int) ((0 : Nat) : Int) = if (spo ot).length = 0 then -1 else 0) := Lib.hid (atO_root ot)
    have HR : Hid (∀ w, Calls Try.prog 12 #[vM 0 0] w fun e W' => e = .returned (.bool true) ∧ Below w.heap.size w W') := Lib.hid fun w => lRight_any 0 0 w
    have HU : Hid (∀ w, Calls Try.prog 8 #[vM 0 0] w fun e W' => e = .returned (.tuple #[vM 0 0, .bool false]) ∧ Below w.heap.size w W') := Lib.hid fun w => lUp_any 0 0 w
    obtain ⟨N, hN⟩ : ∃ N, (spo ot).length = N := ⟨_, rfl⟩
    rw [hN] at HE hlc
    rw [hN]
    clear HX hN hn hk hi
    go_enter Try.func16, Try.ntmps16
    go_wp2_with fail
    obtain ⟨W0, hW0, b0, B⟩ : ∃ W0, w.alloc (.cells #[.int .i64 0, .int .i64 0] 24) = W0 ∧ Box W0 w.heap.size [.int .i64 0, .int .i64 0] ∧ Below w.heap.size w W0 := ⟨_, rfl, Box.new w _ _, below_new _ _⟩
    rw [hW0]
    clear hW0
    refine (HR.out W0).mono ?_
    rintro e W1 ⟨rfl, hb⟩
    replace b0 := b0.next hb
    replace B := B.trans (hb.mono B.size)
    clear hb
    have q0 := b0.c 0 _ rfl
    have q1 := b0.c 1 _ rfl
    go_wp2_with fail
    refine (HU.out W1).mono ?_
    rintro e W2 ⟨rfl, hb⟩
    replace B := B.trans (hb.mono B.size)
    clear hb b0 q0 q1
    have B2 := B.trans ((below_new W2 (.cells #[.int .i64 0, .int .i64 0] 24)).mono B.size)
    by_cases hz : N = 0
    · subst hz
      go_wp2
      go_ret
      exact ⟨rint HE.out.symm, B2⟩
    · have hd : ¬ ((N : Int) ≤ 0) := by omega
      have HE2 : Hid (atO ot ((0 : Nat) : Int) ((0 : Nat) : Int) = 0) := Lib.hid (by rw [HE.out, if_neg hz])
      go_wp2
      go_ret
      exact ⟨rint HE2.out.symm, B2⟩
  | k + 1, i, v, w, hk, hi, h => by
    have HX := Lib.hid h
    obtain ⟨A, cap, rfl, hlc, hcm, _⟩ := spots_at h
    have hcm2 : cap ≤ 9223372036854775807 := Nat.le_trans hcm (by decide)
    clear h hcm
    have hi2 : i / 2 < 2 ^ k := by rw [Nat.pow_succ] at hi; omega
    have hst := atO_step ot hk hi
    have hz0 : (-1 : Int) ≤ atO ot (k : Int) ((i / 2 : Nat) : Int) := by
      rcases at_part ot (k : Int) ((i / 2 : Nat) : Int) with ⟨ha, -⟩ | ⟨o, u, ha, -⟩
      · omega
      · omega
    have hzl := atO_lt ot (k : Int) ((i / 2 : Nat) : Int)
    have IH0 := fun w' (h' : Spots w'.heap.size w' (spo ot) [.slice A (spo ot).length cap]) => lAt_nat ot hn k (i / 2) (.slice A (spo ot).length cap) w' (by omega) hi2 h'
    have HR : Hid (∀ w, Calls Try.prog 12 #[vM ((k + 1 : Nat) : Int) (i : Int)] w fun e W' => e = .returned (.bool true) ∧ Below w.heap.size w W') := Lib.hid fun w => by
      have := lRight_any ((k + 1 : Nat) : Int) (i : Int) w
      rwa [okL_nat hk hi] at this
    have HU : Hid (∀ w, Calls Try.prog 8 #[vM ((k + 1 : Nat) : Int) (i : Int)] w fun e W' => e = .returned (.tuple #[vM (k : Int) ((i / 2 : Nat) : Int), .bool true]) ∧ Below w.heap.size w W') := Lib.hid fun w => by
      have := lUp_any ((k + 1 : Nat) : Int) (i : Int) w
      rwa [upL_yes hk hi] at this
    obtain ⟨c, hc⟩ : ∃ c, decide (i % 2 = 1) = c := ⟨_, rfl⟩
    obtain ⟨z, hz⟩ : ∃ z, atO ot (k : Int) ((i / 2 : Nat) : Int) = z := ⟨_, rfl⟩
    rw [hz] at hst hz0 hzl IH0
    rw [hc] at hst
    have HF0 := fun w' (h' : Spots w'.heap.size w' (spo ot) [.slice A (spo ot).length cap]) => half_any (.slice A (spo ot).length cap) (spo ot) z c w' h' hn hzl (by omega)
    obtain ⟨y, hy⟩ : ∃ y, halfI (spo ot) z c = y := ⟨_, rfl⟩
    rw [hy] at hst HF0
    have IH := Lib.hid IH0
    have HF := Lib.hid HF0
    have HE := Lib.hid hst.1
    have hyl := hst.2
    have hrem : Int.tmod (i : Int) 2 = ((i % 2 : Nat) : Int) := by rw [Int.tmod_eq_emod_of_nonneg (by omega)]; omega
    have heq : (((i % 2 : Nat) : Int) == 1) = c := by
      rw [← hc]
      rcases Nat.mod_two_eq_zero_or_one i with e | e
      · rw [e]; rfl
      · rw [e]; rfl
    obtain ⟨rv, hrv⟩ : ∃ rv : Int, ((i % 2 : Nat) : Int) = rv := ⟨_, rfl⟩
    rw [hrv] at hrem heq
    clear hst IH0 HF0 hy hz hc hrv hz0 hzl hk hi hi2
    obtain ⟨jv, hjv⟩ : ∃ jv : Int, ((i / 2 : Nat) : Int) = jv := ⟨_, rfl⟩
    rw [hjv] at IH HU
    obtain ⟨iv, hiv⟩ : ∃ iv : Int, (i : Int) = iv := ⟨_, rfl⟩
    rw [hiv] at HU HE HR hrem
    rw [hiv]
    obtain ⟨Kv, hKv⟩ : ∃ Kv : Int, ((k + 1 : Nat) : Int) = Kv := ⟨_, rfl⟩
    rw [hKv] at HU HE HR
    rw [hKv]
    obtain ⟨kv, hkv⟩ : ∃ kv : Int, (k : Int) = kv := ⟨_, rfl⟩
    rw [hkv] at HU IH
    clear hjv hiv hKv hkv
    obtain ⟨N, hN⟩ : ∃ N, (spo ot).length = N := ⟨_, rfl⟩
    rw [hN] at HX hlc IH HF hyl
    rw [hN]
    clear hN hn
    have hd : ¬ ((N : Int) ≤ y) := by omega
    go_enter Try.func16, Try.ntmps16
    go_wp2_with fail
    obtain ⟨W0, hW0, b0, B⟩ : ∃ W0, w.alloc (.cells #[.int .i64 Kv, .int .i64 iv] 24) = W0 ∧ Box W0 w.heap.size [.int .i64 Kv, .int .i64 iv] ∧ Below w.heap.size w W0 := ⟨_, rfl, Box.new w _ _, below_new _ _⟩
    rw [hW0]
    clear hW0
    refine (HR.out W0).mono ?_
    rintro e W1 ⟨rfl, hb⟩
    replace b0 := b0.next hb
    replace B := B.trans (hb.mono B.size)
    clear hb
    have q0 := b0.c 0 _ rfl
    have q1 := b0.c 1 _ rfl
    go_wp2_with fail
    refine (HU.out W1).mono ?_
    rintro e W2 ⟨rfl, hb⟩
    replace b0 := b0.next hb
    replace B := B.trans (hb.mono B.size)
    clear hb q0 q1
    go_wp2_with fail
    obtain ⟨W3, hW3, b6, hb⟩ : ∃ W3, W2.alloc (.cells #[.int .i64 kv, .int .i64 jv] 24) = W3 ∧ Box W3 W2.heap.size [.int .i64 kv, .int .i64 jv] ∧ Below W2.heap.size W2 W3 := ⟨_, rfl, Box.new W2 _ _, below_new _ _⟩
    rw [hW3]
    obtain ⟨g6, hg6⟩ : ∃ g, W2.heap.size = g := ⟨_, rfl⟩
    rw [hg6] at b6
    rw [hg6]
    replace b0 := b0.next hb
    replace B := B.trans (hb.mono B.size)
    replace HX := Lib.hid (keeps_spots _ _ _ _ _ _ HX.out B B.size)
    clear hb hW3 hg6
    refine wp_region_results (fun r i => ([.slice A N cap, .slice A N cap, .agg #[.int .i64 kv, .int .i64 jv], .int .i64 z, .pointer (some ⟨w.heap.size, 1, none⟩), .int .i64 iv, .int .i64 rv, .bool c, .int .i64 y, .int .i64 y] : List Value).getD i undef) [3, 8] [0, 0, 0, 0, 0, 0, 0, 0, 1, 2] (fun r q w' => (Below W3.heap.size W3 w')) (by kernel_rfl) (by kernel_rfl) (fun r => ⟨rfl, rfl, rfl, Nat.le_refl _, fun _ _ => rfl⟩) ?_ ?_
    · refine ObsR_of_ends (by kernel_rfl) ?_
      intro r Fr hEA
      refine ⟨?_, ?_, ?_, ?_, ?_, ?_, ?_, ?_, ?_, ?_, trivial⟩
      · exact obR_move _ rfl (want_none rfl) (by kernel_rfl) (eval_out hEA (d := 0) (by kernel_rfl))
      · exact obR_move _ rfl (want_none rfl) (by kernel_rfl) (eval_out hEA (d := 0) (by kernel_rfl))
      · refine obR_val (want_none rfl) (by kernel_rfl) (fun ph w' hp hpm hw => ?_)
        have hc0 := (hw.cell (p := ⟨g6, 0, none⟩) b6.lt).trans (b6.c 0 _ rfl)
        have hc1 := (hw.cell (p := ⟨g6, 1, none⟩) b6.lt).trans (b6.c 1 _ rfl)
        have e6 : Fr.tmps[6]? = some (.pointer (some ⟨g6, 0, none⟩)) := at_out hEA (d := 6) (by kernel_rfl); simp [execOp, e6, hc0, hc1, go_sem]
      · refine obR_call (q := 0) (f := 16) (args := #[.slice A N cap, .agg #[.int .i64 kv, .int .i64 jv]]) (want_none rfl) (by kernel_rfl) (fun w' => by have e18 : Fr.tmps[18]? = some (.slice A N cap) := hEA.dst 1 _ 18 rfl rfl; have e19 : Fr.tmps[19]? = some (.agg #[.int .i64 kv, .int .i64 jv]) := hEA.dst 2 _ 19 rfl rfl; simp [e18, e19, go_sem]) ?_
        intro w' hw
        refine (IH.out w' (keeps_spots _ _ _ _ _ _ HX.out hw hw.size)).mono ?_
        rintro e w2 ⟨rfl, hb⟩
        exact ⟨_, rfl, fun r' hr hv => ⟨rfl, hw.trans (hb.mono hw.size)⟩⟩
      · refine obR_val (want_none rfl) (by kernel_rfl) (fun ph w' hp hpm hw => ?_)
        have e3 : Fr.tmps[3]? = some (.pointer (some ⟨w.heap.size, 0, none⟩)) := at_out hEA (d := 3) (by kernel_rfl); simp [execOp, e3, go_sem]
      · refine obR_val (want_none rfl) (by kernel_rfl) (fun ph w' hp hpm hw => ?_)
        have hc0 := (hw.cell (p := ⟨w.heap.size, 1, none⟩) b0.lt).trans (b0.c 1 _ rfl)
        have e21 : Fr.tmps[21]? = some (.pointer (some ⟨w.heap.size, 1, none⟩)) := hEA.dst 4 _ 21 rfl rfl; simp [execOp, e21, hc0, go_sem]
      · refine obR_val (want_none rfl) (by kernel_rfl) (fun ph w' hp hpm hw => ?_)
        have e22 : Fr.tmps[22]? = some (.int .i64 iv) := hEA.dst 5 _ 22 rfl rfl; simp [execOp, e22, hrem, go_sem]
      · refine obR_val (want_none rfl) (by kernel_rfl) (fun ph w' hp hpm hw => ?_)
        have e23 : Fr.tmps[23]? = some (.int .i64 rv) := hEA.dst 6 _ 23 rfl rfl; simp [execOp, e23, heq, go_sem]
      · refine obR_call (q := 1) (f := 34) (args := #[.slice A N cap, .int .i64 z, .bool c]) (want_none rfl) (by kernel_rfl) (fun w' => by have e17 : Fr.tmps[17]? = some (.slice A N cap) := hEA.dst 0 _ 17 rfl rfl; have e20 : Fr.tmps[20]? = some (.int .i64 z) := hEA.dst 3 _ 20 rfl rfl; have e24 : Fr.tmps[24]? = some (.bool c) := hEA.dst 7 _ 24 rfl rfl; simp [e17, e20, e24, go_sem]) ?_
        intro w' hw
        refine (HF.out w' (keeps_spots _ _ _ _ _ _ HX.out hw hw.size)).mono ?_
        rintro e w2 ⟨rfl, hb⟩
        exact ⟨_, rfl, fun r' hr hv => ⟨rfl, hw.trans (hb.mono hw.size)⟩⟩
      · refine obR_val (want_none rfl) (by kernel_rfl) (fun ph w' hp hpm hw => ?_)
        have e25 : Fr.tmps[25]? = some (.int .i64 y) := hEA.dst 8 _ 25 rfl rfl; simp [execOp, e25, go_sem]
    · intro r w' hw
      simp only [laid, Act.put, List.setIfInBounds_toArray, List.set_cons_succ, List.set_cons_zero, List.getD_cons_succ, List.getD_cons_zero, Nat.zero_add, Nat.reduceAdd]
      go_wp2
      go_ret
      exact ⟨rint HE.out.symm, B.trans (hw.mono B.size)⟩
set_option maxRecDepth 100000 in
set_option maxHeartbeats 8000000 in
theorem lAt_any (v : Value) (ot : Option Tr) (L I : Int) (w : World) (h : Spots w.heap.size w (spo ot) [v]) (hk : okT (spo ot) = true) (hh : htO ot ≤ 60) :
    Calls Try.prog 16 #[v, vM L I] w fun e W' => e = .returned (.int .i64 (atO ot L I)) ∧ Below w.heap.size w W' := by
  have hn : (spo ot).length ≤ 1000000 := by have := (okT_parts hk).1; omega
  cases ho : okL L I
  · have HE : Hid (atO ot L I = -1) := Lib.hid (by simp [atO, ho])
    have HR : Hid (∀ w, Calls Try.prog 12 #[vM L I] w fun e W' => e = .returned (.bool false) ∧ Below w.heap.size w W') := Lib.hid fun w => by
      have := lRight_any L I w
      rwa [ho] at this
    clear ho h hk hh hn
    go_enter Try.func16, Try.ntmps16
    go_wp2_with fail
    obtain ⟨W0, hW0, B⟩ : ∃ W0, w.alloc (.cells #[.int .i64 L, .int .i64 I] 24) = W0 ∧ Below w.heap.size w W0 := ⟨_, rfl, below_new _ _⟩
    rw [hW0]
    clear hW0
    refine (HR.out W0).mono ?_
    rintro e W1 ⟨rfl, hb⟩
    go_wp2
    go_ret
    exact ⟨rint HE.out.symm, B.trans (hb.mono B.size)⟩
  · obtain ⟨k, i, rfl, rfl, h1, h2⟩ := (okL_iff L I).1 ho
    exact lAt_nat ot hn k i v w h1 h2 h

set_option maxRecDepth 100000 in
set_option maxHeartbeats 8000000 in
theorem lPart_any (v : Value) (ot : Option Tr) (L I : Int) (w : World) (h : Spots w.heap.size w (spo ot) [v]) (hk : okT (spo ot) = true) (hh : htO ot ≤ 60) :
    Calls Try.prog 19 #[v, vM L I] w fun e W' => ∃ v', e = .returned v' ∧ Spots W'.heap.size W' (partO ot L I) [v'] ∧ Below w.heap.size w W' := by
  have hn : (spo ot).length ≤ 1000000 := by have := (okT_parts hk).1; omega
  have HX := Lib.hid h
  obtain ⟨A, cap, rfl, hlc, hcm, _⟩ := spots_at h
  have hcm2 : cap ≤ 9223372036854775807 := Nat.le_trans hcm (by decide)
  clear h hcm
  go_enter Try.func19, Try.ntmps19
  go_wp2_with fail
  obtain ⟨W0, hW0, B⟩ : ∃ W0, w.alloc (.cells #[.int .i64 L, .int .i64 I] 24) = W0 ∧ Below w.heap.size w W0 := ⟨_, rfl, below_new _ _⟩
  rw [hW0]
  clear hW0
  refine (lAt_any _ ot L I W0 (keeps_spots _ _ _ _ _ _ HX.out B B.size) hk hh).mono ?_
  rintro e W1 ⟨rfl, hb⟩
  replace B := B.trans (hb.mono B.size)
  clear hb
  replace HX := Lib.hid (keeps_spots _ _ _ _ _ _ HX.out B B.size)
  rcases at_part ot L I with ⟨ha, hp⟩ | ⟨o, u, ha, hp, hle, hpt, hen⟩
  · rw [ha]
    have HPP := Lib.hid hp
    have HEN : Hid (endI (spo ot) (-1) = -1) := Lib.hid rfl
    clear ha hp
    go_wp2_with fail
    refine (end_any _ _ (-1) W1 HX.out hn).mono ?_
    rintro e W2 ⟨rfl, hb⟩
    replace B := B.trans (hb.mono B.size)
    clear hb
    rw [HEN.out]
    go_wp2
    go_ret
    rw [HPP.out]
    exact ⟨_, rfl, own_spots (World.ownsRow_nil _ w.heap.size _ _), B⟩
  · rw [ha]
    have HPP := Lib.hid hp
    have HEN := Lib.hid hen
    obtain ⟨m, hm⟩ : ∃ m, (flat u).length = m := ⟨_, rfl⟩
    rw [hm] at hle hpt HEN
    have hum : m ≤ 1000000 := by omega
    obtain ⟨z, hz⟩ : ∃ z, o + m = z := ⟨_, rfl⟩
    rw [hz] at hle HEN
    obtain ⟨A1, hr1, hS1⟩ := cut_mid HX.out hlc o z (by omega) hle
    have e1 : z - o = m := by omega
    rw [e1] at hr1 hS1
    rw [hpt] at hS1
    have HS1 := Lib.hid hS1
    have HM := Lib.hid hm
    have hoz : o ≤ z := by omega
    have hz0 : ¬ ((z : Int) < 0) := by omega
    have HR1 := Lib.hid hr1
    clear ha hp hpt hen hm hS1 hr1 hz e1
    go_wp2_with fail
    refine (end_any _ _ (o : Int) W1 HX.out hn).mono ?_
    rintro e W2 ⟨rfl, hb⟩
    rw [HEN.out]
    have hr1 := HR1.out
    replace HS1 := Lib.hid (keeps_spots _ _ _ _ _ _ HS1.out hb hb.size)
    replace B := B.trans (hb.mono B.size)
    clear hb
    go_wp2_with fail
    refine (cloneS_any _ (flat u) W2 HS1.out (by rw [HM.out]; exact hum)).mono ?_
    rintro e W3 ⟨v', rfl, hs, hb⟩
    have HS := Lib.hid hs
    clear hs
    replace B := B.trans (hb.mono B.size)
    clear hb
    go_wp2
    go_ret
    rw [HPP.out]
    exact ⟨_, rfl, HS.out, B⟩

end Go.Proofs.Ytoddcpkogapolaa
