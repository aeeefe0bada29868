/- lodgelaw11.PruneKeeps answers true, whatever slices of spots and of members come in, and leaves memory below as it was. No condition. -/
import Derived.Test.YtghnnmgohkfljaaAwake11
import Derived.Test.YtghnnmgohkfljaaSmallL
import Derived.Test.YtghnnmgohkfljaaPhaseR
import Derived.Test.YtghnnmgohkfljaaLens
namespace Go.Proofs.Ytghnnmgohkfljaa
open Go Go.RowKit
set_option linter.unusedVariables false

theorem keep_same (K : List (Int × Int)) (ot : Option Tr) : keepO K (keepO K ot) = keepO K ot := by
  rw [keep_keep]
  congr 1
  rw [List.filter_eq_self]
  intro m hm
  simpa using hm
set_option maxRecDepth 100000 in
theorem refHeightO_any (ot : Option Tr) (v : Value) (w : World) (h : Spots w.heap.size w (spo ot) [v]) (hn : (spo ot).length ≤ 400000) : Calls Try.prog 19 #[v] w fun e W' => e = .returned (.int .i64 (htO ot)) ∧ Below w.heap.size w W' := by
  cases ot with
  | none => exact refHeight_nil v w h
  | some t => exact refHeight_flat t v w h (Nat.le_trans hn (by decide))
set_option maxRecDepth 100000 in
set_option maxHeartbeats 8000000 in
theorem pruneKeeps_walk (A : Option Addr) (la ca : Nat) (A2 : Option Addr) (lb cb : Nat) (w : World) (h : ∃ xs, Spots w.heap.size w xs [.slice A la ca]) (h' : ∃ K, Mems w.heap.size w K [.slice A2 lb cb]) :
    Calls Try.prog 4 #[.slice A la ca, .slice A2 lb cb] w fun e w' => e = .returned (.bool true) ∧ Below w.heap.size w w' := by
  obtain ⟨xs, hx⟩ := h
  have HX := Lib.hid hx
  obtain ⟨_, _, e, hlcHX, hcmHX, _⟩ := spots_at hx
  simp only [Value.slice.injEq] at e
  obtain ⟨rfl, hlHX, rfl⟩ := e
  have hcHX : ca ≤ 9223372036854775807 := Nat.le_trans hcmHX (by decide)
  subst hlHX
  clear hx hcmHX
  obtain ⟨K, hk⟩ := h'
  have HK := Lib.hid hk
  obtain ⟨_, _, e, hlcHK, hcmHK, _⟩ := mems_at hk
  simp only [Value.slice.injEq] at e
  obtain ⟨rfl, hlHK, rfl⟩ := e
  have hcHK : cb ≤ 9223372036854775807 := Nat.le_trans hcmHK (by decide)
  subst hlHK
  clear hk hcmHK
  obtain ⟨b, hb1, -, hb2⟩ := smallL_any xs
  have HSM := Lib.hid hb2
  clear hb2
  have B : Below w.heap.size w w := Below.refl _ _
  go_enter Try.func4, Try.ntmps4
  go_wp2_with fail
  refine (HSM.out _ w HX.out).mono ?_
  rintro e W1 ⟨rfl, hb⟩
  replace HX := Lib.hid (keeps_spots _ _ _ _ _ _ HX.out hb hb.size)
  replace HK := Lib.hid (keeps_mems _ _ _ _ _ _ HK.out hb hb.size)
  replace B := B.trans (hb.mono B.size)
  clear hb
  cases b with
  | false =>
    clear hb1
    go_wp2_with fail
    refine (awake11_any W1).mono ?_
    rintro e W9 ⟨rfl, B9⟩
    go_wp2
    go_ret
    exact ⟨rfl, B.trans (B9.mono B.size)⟩
  | true =>
    obtain ⟨ot, rfl, hok⟩ := hb1 rfl
    have hn : (spo ot).length ≤ 400000 := by have := (okT_parts hok).1; omega
    clear hb1
    by_cases hkl : K.length ≤ 100
    · have hd : decide ((100 : Int) < (K.length : Int)) = false := decide_eq_false (by omega)
      have hd2 : ¬ (100 < K.length) := by omega
      have hl1 : (spo (keepO K ot)).length ≤ 400000 := Nat.le_trans (len_keep K ot) hn
      have hokk := okT_keep hok K
      have hht := ht_keep K ot
      have HLV := Lib.hid (lvO_keep K ot)
      have HKS := Lib.hid (keep_same K ot)
      replace hkl : K.length ≤ 1000 := by omega
      have hsl : (lv (spo ot)).length ≤ 1000 := Nat.le_trans (okT_few hok) (by decide)
      go_wp2_with fail
      clear hd hd2
      refine (pOnly_any _ _ ot K W1 HX.out HK.out hok hkl).mono ?_
      rintro e W2 ⟨vx, rfl, hx, hb⟩
      replace HX := Lib.hid (keeps_spots _ _ _ _ _ _ HX.out hb hb.size)
      replace HK := Lib.hid (keeps_mems _ _ _ _ _ _ HK.out hb hb.size)
      replace B := B.trans (hb.mono B.size)
      clear hb
      have HO := Lib.hid hx
      clear hx
      go_wp2_with fail
      refine (refLeaves_any _ (spo ot) W2 HX.out (by omega)).mono ?_
      rintro e W3 ⟨vm, rfl, hm, hb⟩
      replace HX := Lib.hid (keeps_spots _ _ _ _ _ _ HX.out hb hb.size)
      replace HK := Lib.hid (keeps_mems _ _ _ _ _ _ HK.out hb hb.size)
      replace HO := Lib.hid (keeps_spots _ _ _ _ _ _ HO.out hb hb.size)
      replace B := B.trans (hb.mono B.size)
      clear hb
      have HM := Lib.hid hm
      clear hm
      obtain ⟨src, hsrc⟩ : ∃ src, lv (spo ot) = src := ⟨_, rfl⟩
      rw [hsrc] at HM hsl
      have HSR := Lib.hid hsrc
      clear hsrc
      obtain ⟨AS, cS, rfl, -, -⟩ := mems_len HM.out src.length rfl
      go_wp2_with fail
      have hs0 := HM.out
      obtain ⟨AS, cS, eS, hlcS, hcmS, hpS⟩ := mems_at hs0
      have hcS : cS ≤ 9223372036854775807 := Nat.le_trans hcmS (by decide)
      have HP := Lib.hid hpS
      obtain ⟨N, hN⟩ : ∃ N, W3.heap.size = N := ⟨_, rfl⟩
      have HNN := Lib.hid hN
      have hwN : w.heap.size ≤ N := by rw [← hN]; exact B.size
      have BN0 : Below N W3 W3 := by rw [← hN]; exact Below.refl _ _
      have hNW : N ≤ W3.heap.size := Nat.le_of_eq hN.symm
      clear hs0 hpS hcmS hN
      try (simp only [Value.slice.injEq] at eS; obtain ⟨rfl, -, rfl⟩ := eS)
      try subst eS
      go_loopw [6, 8] (fun s i wr => ∃ (k : Nat) (wq : World) (uq : Value), wq = wr ∧ uq = s ∧ k ≤ src.length ∧ i = .int .i64 k ∧ wr.ownsRow N 25 2 s ((src.take k).filter fun m => decide (m ∈ K)).length (((src.take k).filter fun m => decide (m ∈ K)).flatMap mC) ∧ Below w.heap.size w wr ∧ Below N W3 wr ∧ N ≤ wr.heap.size) (fun _ i _ => src.length - (intOf i).toNat)
      case atStart => exact ⟨0, _, _, rfl, rfl, Nat.zero_le _, rfl, World.ownsRow_nil _ _ _ _, B, BN0, hNW⟩
      case round =>
        clear B BN0 hNW
        obtain ⟨k, wr, s, rfl, rfl, hk, rfl, hown, B, BN, hNw⟩ := hrel
        by_cases hlt : k < src.length
        · have hd : decide (k < src.length) = true := by simpa using hlt
          have hi : (k : Int) < (src.length : Int) := by omega
          have hge : (0 : Int) ≤ (k : Int) := by omega
          obtain ⟨g, off, rfl, hbn, hc0, hc1⟩ := HP.out k hlt
          have hbN : g < N := by rw [← HNN.out]; exact hbn
          have k0 := (BN.cell (p := ⟨g, off + k * 2, none⟩) hbN).trans hc0
          have k1 := (BN.cell (p := ⟨g, off + k * 2 + 1, none⟩) hbN).trans hc1
          have HF := Lib.hid (filter_take (fun m => decide (m ∈ K)) src k hlt)
          have hfl := filter_len (fun m => decide (m ∈ K)) src k
          have HKr := Lib.hid (keeps_mems _ _ _ _ _ _ HK.out (by rw [HNN.out]; exact BN) (Nat.le_trans (Nat.le_of_eq HNN.out) hNw))
          obtain ⟨⟨x, y⟩, hb⟩ : ∃ b, src[k] = b := ⟨_, rfl⟩
          rw [hb] at k0 k1 HF
          clear hb hc0 hc1
          cases hm : decide ((x, y) ∈ K)
          · have HH : Hid (∀ w, Mems w.heap.size w K [(.slice A2 K.length cb)] → Calls Try.prog 16 #[(.slice A2 K.length cb), vM x y] w fun e W' => e = .returned (.bool false) ∧ Below w.heap.size w W') := Lib.hid fun w h => by
              have := refHas_any (.slice A2 K.length cb) K x y w h
              rwa [hm] at this
            have HF2 : Hid (((src.take (k + 1)).filter fun m => decide (m ∈ K)) = ((src.take k).filter fun m => decide (m ∈ K))) := Lib.hid (by rw [HF.out]; simp [hm])
            clear hm HF
            go_wp2_with fail
            refine (HH.out wr HKr.out).mono ?_
            rintro e w2 ⟨rfl, hb⟩
            have HO2 : Hid (w2.ownsRow N 25 2 s ((src.take (k + 1)).filter fun m => decide (m ∈ K)).length (((src.take (k + 1)).filter fun m => decide (m ∈ K)).flatMap mC)) := Lib.hid (by rw [HF2.out]; exact owns_below hown hb)
            have B2 := B.trans (hb.mono B.size)
            have BN2 := BN.trans (hb.mono hNw)
            have hNw2 := Nat.le_trans hNw hb.size
            clear hown hb B BN HF2 k0 k1 HKr
            go_wp2
            go_roundw
            case rel => exact ⟨k + 1, _, _, rfl, rfl, by omega, by go_num, HO2.out, B2, BN2, hNw2⟩
            case measure => simp [intOf]; omega
          · have HH : Hid (∀ w, Mems w.heap.size w K [(.slice A2 K.length cb)] → Calls Try.prog 16 #[(.slice A2 K.length cb), vM x y] w fun e W' => e = .returned (.bool true) ∧ Below w.heap.size w W') := Lib.hid fun w h => by
              have := refHas_any (.slice A2 K.length cb) K x y w h
              rwa [hm] at this
            have HF2 : Hid (((src.take (k + 1)).filter fun m => decide (m ∈ K)) = ((src.take k).filter fun m => decide (m ∈ K)) ++ [(x, y)]) := Lib.hid (by rw [HF.out, if_pos hm])
            clear hm HF
            go_wp2_with fail
            refine (HH.out wr HKr.out).mono ?_
            rintro e w2 ⟨rfl, hb⟩
            have hown9 := owns_below hown hb
            have B9 := B.trans (hb.mono B.size)
            have BN9 := BN.trans (hb.mono hNw)
            have hNw9 := Nat.le_trans hNw hb.size
            have c0 := (BN9.cell (p := ⟨g, off + k * 2, none⟩) hbN).trans ((BN.cell (p := ⟨g, off + k * 2, none⟩) hbN).symm.trans k0)
            have c1 := (BN9.cell (p := ⟨g, off + k * 2 + 1, none⟩) hbN).trans ((BN.cell (p := ⟨g, off + k * 2 + 1, none⟩) hbN).symm.trans k1)
            clear hown hb B BN k0 k1 HKr
            go_wp2_with (at_builtin; refine append_mems _ rfl _ _ rfl N _ _ _ rfl (hown9.alloc _) _ _ _ rfl (one_mem _ _ _ _ _ (by simp)) ?c1 ?c2 ?_)
            case c1 => exact Nat.le_trans (Nat.add_le_add hfl (Nat.le_refl 1)) (by omega)
            case c2 => simp; omega
            intro v' w' hown' hgr
            have B2 := (B9.alloc B9.size (.cells #[.int .i64 x, .int .i64 y] 25)).grown hgr (by have := B9.size; simp; omega) (fun k hk => by have := (hown9.lt k hk).1; omega)
            have BN2 := (BN9.alloc hNw9 (.cells #[.int .i64 x, .int .i64 y] 25)).grown hgr (by simp; omega) (fun k hk => (hown9.lt k hk).1)
            have hNw2 : N ≤ w'.heap.size := by have := hgr.size; simp at this; omega
            have HO2 : Hid (w'.ownsRow N 25 2 v' ((src.take (k + 1)).filter fun m => decide (m ∈ K)).length (((src.take (k + 1)).filter fun m => decide (m ∈ K)).flatMap mC)) := Lib.hid (by rw [HF2.out]; simpa using hown')
            clear hown9 B9 BN9 hNw9 c0 c1 hgr hown' HF2
            go_wp2
            go_roundw
            case rel => exact ⟨k + 1, _, _, rfl, rfl, by omega, by go_num, HO2.out, B2, BN2, hNw2⟩
            case measure => simp [intOf]; omega
        · have hd : decide (k < src.length) = false := by simpa using hlt
          have hkk : src.take k = src := List.take_of_length_le (by omega)
          rw [hkk] at hown
          obtain ⟨g', c', n', rfl⟩ : ∃ ao n' cap, s = Value.slice ao n' cap := by
            rcases hown.2 with ⟨hv, _⟩ | ⟨g, cap, cur, hv, _⟩
            · exact ⟨_, _, _, hv⟩
            · exact ⟨_, _, _, hv⟩
          have HW := Lib.hid (own_mems hown)
          have hbE : Below W3.heap.size W3 wr := by rw [HNN.out]; exact BN
          replace HX := Lib.hid (keeps_spots _ _ _ _ _ _ HX.out hbE hbE.size)
          replace HK := Lib.hid (keeps_mems _ _ _ _ _ _ HK.out hbE hbE.size)
          replace HO := Lib.hid (keeps_spots _ _ _ _ _ _ HO.out hbE hbE.size)
          replace HM := Lib.hid (keeps_mems _ _ _ _ _ _ HM.out hbE hbE.size)
          clear hkk hown hbE BN hNw HP hwN hk hlt
          have HWE : Hid (lv (spo (keepO K ot)) = src.filter fun m => decide (m ∈ K)) := Lib.hid (by rw [← HSR.out]; exact HLV.out)
          go_wp2_with fail
          refine (awake11_any wr).mono ?_
          rintro e V1 ⟨rfl, hb⟩
          replace HX := Lib.hid (keeps_spots _ _ _ _ _ _ HX.out hb hb.size)
          replace HK := Lib.hid (keeps_mems _ _ _ _ _ _ HK.out hb hb.size)
          replace HO := Lib.hid (keeps_spots _ _ _ _ _ _ HO.out hb hb.size)
          replace HW := Lib.hid (keeps_mems _ _ _ _ _ _ HW.out hb hb.size)
          replace B := B.trans (hb.mono B.size)
          clear hb
          go_wp2_with fail
          refine ((show Calls _ _ _ _ (fun e W' => e = .returned (.bool true) ∧ Below V1.heap.size V1 W') from by have := refRight_any vx (spo (keepO K ot)) V1 HO.out (by omega); rwa [hokk] at this)).mono ?_
          rintro e V2 ⟨rfl, hb⟩
          replace HX := Lib.hid (keeps_spots _ _ _ _ _ _ HX.out hb hb.size)
          replace HK := Lib.hid (keeps_mems _ _ _ _ _ _ HK.out hb hb.size)
          replace HO := Lib.hid (keeps_spots _ _ _ _ _ _ HO.out hb hb.size)
          replace HW := Lib.hid (keeps_mems _ _ _ _ _ _ HW.out hb hb.size)
          replace B := B.trans (hb.mono B.size)
          clear hb
          go_wp2_with fail
          refine (refLeaves_any vx (spo (keepO K ot)) V2 HO.out (by omega)).mono ?_
          rintro e V3 ⟨vl, rfl, hl, hb⟩
          replace HX := Lib.hid (keeps_spots _ _ _ _ _ _ HX.out hb hb.size)
          replace HK := Lib.hid (keeps_mems _ _ _ _ _ _ HK.out hb hb.size)
          replace HO := Lib.hid (keeps_spots _ _ _ _ _ _ HO.out hb hb.size)
          replace HW := Lib.hid (keeps_mems _ _ _ _ _ _ HW.out hb hb.size)
          replace B := B.trans (hb.mono B.size)
          clear hb
          rw [HWE.out] at hl
          have HL := Lib.hid hl
          clear hl
          go_wp2_with fail
          refine ((show Calls _ _ _ _ (fun e W' => e = .returned (.bool true) ∧ Below V3.heap.size V3 W') from by have := sameM_any vl _ (src.filter fun m => decide (m ∈ K)) (src.filter fun m => decide (m ∈ K)) V3 HL.out HW.out (Nat.le_trans (List.length_filter_le _ _) (by omega)); rwa [show decide ((src.filter fun m => decide (m ∈ K)) = (src.filter fun m => decide (m ∈ K))) = true from decide_eq_true rfl] at this)).mono ?_
          rintro e V4 ⟨rfl, hb⟩
          replace HX := Lib.hid (keeps_spots _ _ _ _ _ _ HX.out hb hb.size)
          replace HK := Lib.hid (keeps_mems _ _ _ _ _ _ HK.out hb hb.size)
          replace HO := Lib.hid (keeps_spots _ _ _ _ _ _ HO.out hb hb.size)
          replace HW := Lib.hid (keeps_mems _ _ _ _ _ _ HW.out hb hb.size)
          replace HL := Lib.hid (keeps_mems _ _ _ _ _ _ HL.out hb hb.size)
          replace B := B.trans (hb.mono B.size)
          clear hb
          go_wp2_with fail
          refine (refHeightO_any (keepO K ot) vx V4 HO.out hl1).mono ?_
          rintro e V5 ⟨rfl, hb⟩
          replace HX := Lib.hid (keeps_spots _ _ _ _ _ _ HX.out hb hb.size)
          replace HK := Lib.hid (keeps_mems _ _ _ _ _ _ HK.out hb hb.size)
          replace HO := Lib.hid (keeps_spots _ _ _ _ _ _ HO.out hb hb.size)
          replace HW := Lib.hid (keeps_mems _ _ _ _ _ _ HW.out hb hb.size)
          replace HL := Lib.hid (keeps_mems _ _ _ _ _ _ HL.out hb hb.size)
          replace B := B.trans (hb.mono B.size)
          clear hb
          go_wp2_with fail
          refine (refHeightO_any ot _ V5 HX.out hn).mono ?_
          rintro e V6 ⟨rfl, hb⟩
          replace HX := Lib.hid (keeps_spots _ _ _ _ _ _ HX.out hb hb.size)
          replace HK := Lib.hid (keeps_mems _ _ _ _ _ _ HK.out hb hb.size)
          replace HO := Lib.hid (keeps_spots _ _ _ _ _ _ HO.out hb hb.size)
          replace HW := Lib.hid (keeps_mems _ _ _ _ _ _ HW.out hb hb.size)
          replace HL := Lib.hid (keeps_mems _ _ _ _ _ _ HL.out hb hb.size)
          replace B := B.trans (hb.mono B.size)
          clear hb
          go_wp2_with fail
          refine (pOnly_any vx _ (keepO K ot) K V6 HO.out HK.out hokk hkl).mono ?_
          rintro e V7 ⟨vy, rfl, hy, hb⟩
          replace HX := Lib.hid (keeps_spots _ _ _ _ _ _ HX.out hb hb.size)
          replace HK := Lib.hid (keeps_mems _ _ _ _ _ _ HK.out hb hb.size)
          replace HO := Lib.hid (keeps_spots _ _ _ _ _ _ HO.out hb hb.size)
          replace HW := Lib.hid (keeps_mems _ _ _ _ _ _ HW.out hb hb.size)
          replace HL := Lib.hid (keeps_mems _ _ _ _ _ _ HL.out hb hb.size)
          replace B := B.trans (hb.mono B.size)
          clear hb
          rw [HKS.out] at hy
          have HY := Lib.hid hy
          clear hy
          go_wp2_with fail
          refine ((show Calls _ _ _ _ (fun e W' => e = .returned (.bool true) ∧ Below V7.heap.size V7 W') from by have := sameS_any vy vx (spo (keepO K ot)) (spo (keepO K ot)) V7 HY.out HO.out (by omega); rwa [show decide ((spo (keepO K ot)) = (spo (keepO K ot))) = true from decide_eq_true rfl] at this)).mono ?_
          rintro e V8 ⟨rfl, hb⟩
          replace HX := Lib.hid (keeps_spots _ _ _ _ _ _ HX.out hb hb.size)
          replace HK := Lib.hid (keeps_mems _ _ _ _ _ _ HK.out hb hb.size)
          replace HO := Lib.hid (keeps_spots _ _ _ _ _ _ HO.out hb hb.size)
          replace HW := Lib.hid (keeps_mems _ _ _ _ _ _ HW.out hb hb.size)
          replace HL := Lib.hid (keeps_mems _ _ _ _ _ _ HL.out hb hb.size)
          replace HY := Lib.hid (keeps_spots _ _ _ _ _ _ HY.out hb hb.size)
          replace B := B.trans (hb.mono B.size)
          clear hb
          go_wp2
          go_ret
          exact ⟨rfl, B⟩
    · have hd : decide ((100 : Int) < (K.length : Int)) = true := decide_eq_true (by omega)
      have hd2 : 100 < K.length := by omega
      go_wp2_with fail
      refine (awake11_any W1).mono ?_
      rintro e W9 ⟨rfl, B9⟩
      go_wp2
      go_ret
      exact ⟨rfl, B.trans (B9.mono B.size)⟩

end Go.Proofs.Ytghnnmgohkfljaa
