/- lodgelaw11.PruneTwice answers true, whatever slices of spots and of members come in, and leaves memory below as it was. No condition. -/
import Derived.Test.YtghnnmgohkfljaaAwake11
import Derived.Test.YtghnnmgohkfljaaSmallL
import Derived.Test.YtghnnmgohkfljaaPhaseR
import Derived.Test.YtghnnmgohkfljaaLens
namespace Go.Proofs.Ytghnnmgohkfljaa
open Go Go.RowKit
set_option linter.unusedVariables false

set_option maxRecDepth 100000 in
set_option maxHeartbeats 8000000 in
theorem pruneTwice_walk (A : Option Addr) (la ca : Nat) (A2 : Option Addr) (lb cb : Nat) (A3 : Option Addr) (lc cc : Nat) (w : World) (h : ∃ xs, Spots w.heap.size w xs [.slice A la ca]) (h' : ∃ K, Mems w.heap.size w K [.slice A2 lb cb]) (h'' : ∃ J, Mems w.heap.size w J [.slice A3 lc cc]) :
    Calls Try.prog 7 #[.slice A la ca, .slice A2 lb cb, .slice A3 lc cc] w fun e w' => e = .returned (.bool true) ∧ Below w.heap.size w w' := by
  obtain ⟨xs, hx⟩ := h
  have HX := Lib.hid hx
  obtain ⟨_, _, e, hlcHX, hcmHX, _⟩ := spots_at hx
  simp only [Value.slice.injEq] at e
  obtain ⟨rfl, hlHX, rfl⟩ := e
  have hcHX : ca ≤ 9223372036854775807 := Nat.le_trans hcmHX (by decide)
  subst hlHX
  clear hx hcmHX
  obtain ⟨K, hk⟩ := h'
  have HK := Lib.hid hk
  obtain ⟨_, _, e, hlcHK, hcmHK, _⟩ := mems_at hk
  simp only [Value.slice.injEq] at e
  obtain ⟨rfl, hlHK, rfl⟩ := e
  have hcHK : cb ≤ 9223372036854775807 := Nat.le_trans hcmHK (by decide)
  subst hlHK
  clear hk hcmHK
  obtain ⟨J, hj⟩ := h''
  have HJ := Lib.hid hj
  obtain ⟨_, _, e, hlcHJ, hcmHJ, _⟩ := mems_at hj
  simp only [Value.slice.injEq] at e
  obtain ⟨rfl, hlHJ, rfl⟩ := e
  have hcHJ : cc ≤ 9223372036854775807 := Nat.le_trans hcmHJ (by decide)
  subst hlHJ
  clear hj hcmHJ
  obtain ⟨b, hb1, -, hb2⟩ := smallL_any xs
  have HSM := Lib.hid hb2
  clear hb2
  have B : Below w.heap.size w w := Below.refl _ _
  go_enter Try.func7, Try.ntmps7
  go_wp2_with fail
  refine (HSM.out _ w HX.out).mono ?_
  rintro e W1 ⟨rfl, hb⟩
  replace HX := Lib.hid (keeps_spots _ _ _ _ _ _ HX.out hb hb.size)
  replace HK := Lib.hid (keeps_mems _ _ _ _ _ _ HK.out hb hb.size)
  replace HJ := Lib.hid (keeps_mems _ _ _ _ _ _ HJ.out hb hb.size)
  replace B := B.trans (hb.mono B.size)
  clear hb
  cases b with
  | false =>
    clear hb1
    go_wp2_with fail
    refine (awake11_any W1).mono ?_
    rintro e W9 ⟨rfl, B9⟩
    go_wp2
    go_ret
    exact ⟨rfl, B.trans (B9.mono B.size)⟩
  | true =>
    obtain ⟨ot, rfl, hok⟩ := hb1 rfl
    have hn : (spo ot).length ≤ 400000 := by have := (okT_parts hok).1; omega
    clear hb1
    by_cases hkl : K.length ≤ 60
    · by_cases hjl : J.length ≤ 60
      · have hd : decide ((60 : Int) < (K.length : Int)) = false := decide_eq_false (by omega)
        have hd2 : ¬ (60 < K.length) := by omega
        have hd3 : decide ((60 : Int) < (J.length : Int)) = false := decide_eq_false (by omega)
        have hd4 : ¬ (60 < J.length) := by omega
        have hokk := okT_keep hok K
        have hl1 : (spo (keepO K ot)).length ≤ 400000 := Nat.le_trans (len_keep K ot) hn
        have hl2 : (spo (keepO (K.filter fun m => decide (m ∈ J)) ot)).length ≤ 1000000 := Nat.le_trans (len_keep _ ot) (by omega)
        have HKK := Lib.hid (keep_keep J K ot)
        go_wp2_with fail
        clear hd hd2 hd3 hd4
        have hs0 := HK.out
        obtain ⟨AS, cS, eS, hlcS, hcmS, hpS⟩ := mems_at hs0
        have hcS : cS ≤ 9223372036854775807 := Nat.le_trans hcmS (by decide)
        have HP := Lib.hid hpS
        obtain ⟨N, hN⟩ : ∃ N, W1.heap.size = N := ⟨_, rfl⟩
        have HNN := Lib.hid hN
        have hwN : w.heap.size ≤ N := by rw [← hN]; exact B.size
        have BN0 : Below N W1 W1 := by rw [← hN]; exact Below.refl _ _
        have hNW : N ≤ W1.heap.size := Nat.le_of_eq hN.symm
        clear hs0 hpS hcmS hN
        try (simp only [Value.slice.injEq] at eS; obtain ⟨rfl, -, rfl⟩ := eS)
        try subst eS
        go_loopw [7, 8] (fun s i wr => ∃ (k : Nat) (wq : World) (uq : Value), wq = wr ∧ uq = s ∧ k ≤ K.length ∧ i = .int .i64 k ∧ wr.ownsRow N 25 2 s ((K.take k).filter fun m => decide (m ∈ J)).length (((K.take k).filter fun m => decide (m ∈ J)).flatMap mC) ∧ Below w.heap.size w wr ∧ Below N W1 wr ∧ N ≤ wr.heap.size) (fun _ i _ => K.length - (intOf i).toNat)
        case atStart => exact ⟨0, _, _, rfl, rfl, Nat.zero_le _, rfl, World.ownsRow_nil _ _ _ _, B, BN0, hNW⟩
        case round =>
          clear B BN0 hNW
          obtain ⟨k, wr, s, rfl, rfl, hk, rfl, hown, B, BN, hNw⟩ := hrel
          by_cases hlt : k < K.length
          · have hd : decide (k < K.length) = true := by simpa using hlt
            have hi : (k : Int) < (K.length : Int) := by omega
            have hge : (0 : Int) ≤ (k : Int) := by omega
            obtain ⟨g, off, rfl, hbn, hc0, hc1⟩ := HP.out k hlt
            have hbN : g < N := by rw [← HNN.out]; exact hbn
            have k0 := (BN.cell (p := ⟨g, off + k * 2, none⟩) hbN).trans hc0
            have k1 := (BN.cell (p := ⟨g, off + k * 2 + 1, none⟩) hbN).trans hc1
            have HF := Lib.hid (filter_take (fun m => decide (m ∈ J)) K k hlt)
            have hfl := filter_len (fun m => decide (m ∈ J)) K k
            have HKr := Lib.hid (keeps_mems _ _ _ _ _ _ HJ.out (by rw [HNN.out]; exact BN) (Nat.le_trans (Nat.le_of_eq HNN.out) hNw))
            obtain ⟨⟨x, y⟩, hb⟩ : ∃ b, K[k] = b := ⟨_, rfl⟩
            rw [hb] at k0 k1 HF
            clear hb hc0 hc1
            cases hm : decide ((x, y) ∈ J)
            · have HH : Hid (∀ w, Mems w.heap.size w J [(.slice A3 J.length cc)] → Calls Try.prog 16 #[(.slice A3 J.length cc), vM x y] w fun e W' => e = .returned (.bool false) ∧ Below w.heap.size w W') := Lib.hid fun w h => by
                have := refHas_any (.slice A3 J.length cc) J x y w h
                rwa [hm] at this
              have HF2 : Hid (((K.take (k + 1)).filter fun m => decide (m ∈ J)) = ((K.take k).filter fun m => decide (m ∈ J))) := Lib.hid (by rw [HF.out]; simp [hm])
              clear hm HF
              go_wp2_with fail
              refine (HH.out wr HKr.out).mono ?_
              rintro e w2 ⟨rfl, hb⟩
              have HO2 : Hid (w2.ownsRow N 25 2 s ((K.take (k + 1)).filter fun m => decide (m ∈ J)).length (((K.take (k + 1)).filter fun m => decide (m ∈ J)).flatMap mC)) := Lib.hid (by rw [HF2.out]; exact owns_below hown hb)
              have B2 := B.trans (hb.mono B.size)
              have BN2 := BN.trans (hb.mono hNw)
              have hNw2 := Nat.le_trans hNw hb.size
              clear hown hb B BN HF2 k0 k1 HKr
              go_wp2
              go_roundw
              case rel => exact ⟨k + 1, _, _, rfl, rfl, by omega, by go_num, HO2.out, B2, BN2, hNw2⟩
              case measure => simp [intOf]; omega
            · have HH : Hid (∀ w, Mems w.heap.size w J [(.slice A3 J.length cc)] → Calls Try.prog 16 #[(.slice A3 J.length cc), vM x y] w fun e W' => e = .returned (.bool true) ∧ Below w.heap.size w W') := Lib.hid fun w h => by
                have := refHas_any (.slice A3 J.length cc) J x y w h
                rwa [hm] at this
              have HF2 : Hid (((K.take (k + 1)).filter fun m => decide (m ∈ J)) = ((K.take k).filter fun m => decide (m ∈ J)) ++ [(x, y)]) := Lib.hid (by rw [HF.out, if_pos hm])
              clear hm HF
              go_wp2_with fail
              refine (HH.out wr HKr.out).mono ?_
              rintro e w2 ⟨rfl, hb⟩
              have hown9 := owns_below hown hb
              have B9 := B.trans (hb.mono B.size)
              have BN9 := BN.trans (hb.mono hNw)
              have hNw9 := Nat.le_trans hNw hb.size
              have c0 := (BN9.cell (p := ⟨g, off + k * 2, none⟩) hbN).trans ((BN.cell (p := ⟨g, off + k * 2, none⟩) hbN).symm.trans k0)
              have c1 := (BN9.cell (p := ⟨g, off + k * 2 + 1, none⟩) hbN).trans ((BN.cell (p := ⟨g, off + k * 2 + 1, none⟩) hbN).symm.trans k1)
              clear hown hb B BN k0 k1 HKr
              go_wp2_with (at_builtin; refine append_mems _ rfl _ _ rfl N _ _ _ rfl (hown9.alloc _) _ _ _ rfl (one_mem _ _ _ _ _ (by simp)) ?c1 ?c2 ?_)
              case c1 => exact Nat.le_trans (Nat.add_le_add hfl (Nat.le_refl 1)) (by omega)
              case c2 => simp; omega
              intro v' w' hown' hgr
              have B2 := (B9.alloc B9.size (.cells #[.int .i64 x, .int .i64 y] 25)).grown hgr (by have := B9.size; simp; omega) (fun k hk => by have := (hown9.lt k hk).1; omega)
              have BN2 := (BN9.alloc hNw9 (.cells #[.int .i64 x, .int .i64 y] 25)).grown hgr (by simp; omega) (fun k hk => (hown9.lt k hk).1)
              have hNw2 : N ≤ w'.heap.size := by have := hgr.size; simp at this; omega
              have HO2 : Hid (w'.ownsRow N 25 2 v' ((K.take (k + 1)).filter fun m => decide (m ∈ J)).length (((K.take (k + 1)).filter fun m => decide (m ∈ J)).flatMap mC)) := Lib.hid (by rw [HF2.out]; simpa using hown')
              clear hown9 B9 BN9 hNw9 c0 c1 hgr hown' HF2
              go_wp2
              go_roundw
              case rel => exact ⟨k + 1, _, _, rfl, rfl, by omega, by go_num, HO2.out, B2, BN2, hNw2⟩
              case measure => simp [intOf]; omega
          · have hd : decide (k < K.length) = false := by simpa using hlt
            have hkk : K.take k = K := List.take_of_length_le (by omega)
            rw [hkk] at hown
            obtain ⟨g', c', n', rfl⟩ : ∃ ao n' cap, s = Value.slice ao n' cap := by
              rcases hown.2 with ⟨hv, _⟩ | ⟨g, cap, cur, hv, _⟩
              · exact ⟨_, _, _, hv⟩
              · exact ⟨_, _, _, hv⟩
            have HW := Lib.hid (own_mems hown)
            have hbE : Below W1.heap.size W1 wr := by rw [HNN.out]; exact BN
            replace HX := Lib.hid (keeps_spots _ _ _ _ _ _ HX.out hbE hbE.size)
            replace HK := Lib.hid (keeps_mems _ _ _ _ _ _ HK.out hbE hbE.size)
            replace HJ := Lib.hid (keeps_mems _ _ _ _ _ _ HJ.out hbE hbE.size)
            clear hkk hown hbE BN hNw HP hwN hk hlt
            go_wp2_with fail
            refine (awake11_any wr).mono ?_
            rintro e V1 ⟨rfl, hb⟩
            replace HX := Lib.hid (keeps_spots _ _ _ _ _ _ HX.out hb hb.size)
            replace HK := Lib.hid (keeps_mems _ _ _ _ _ _ HK.out hb hb.size)
            replace HJ := Lib.hid (keeps_mems _ _ _ _ _ _ HJ.out hb hb.size)
            replace HW := Lib.hid (keeps_mems _ _ _ _ _ _ HW.out hb hb.size)
            replace B := B.trans (hb.mono B.size)
            clear hb
            go_wp2_with fail
            refine (pOnly_any _ _ ot K V1 HX.out HK.out hok (by omega)).mono ?_
            rintro e V2 ⟨v1, rfl, h1, hb⟩
            replace HX := Lib.hid (keeps_spots _ _ _ _ _ _ HX.out hb hb.size)
            replace HK := Lib.hid (keeps_mems _ _ _ _ _ _ HK.out hb hb.size)
            replace HJ := Lib.hid (keeps_mems _ _ _ _ _ _ HJ.out hb hb.size)
            replace HW := Lib.hid (keeps_mems _ _ _ _ _ _ HW.out hb hb.size)
            replace B := B.trans (hb.mono B.size)
            clear hb
            have H1 := Lib.hid h1
            clear h1
            go_wp2_with fail
            refine (pOnly_any v1 _ (keepO K ot) J V2 H1.out HJ.out hokk (by omega)).mono ?_
            rintro e V3 ⟨v2, rfl, h2, hb⟩
            replace HX := Lib.hid (keeps_spots _ _ _ _ _ _ HX.out hb hb.size)
            replace HK := Lib.hid (keeps_mems _ _ _ _ _ _ HK.out hb hb.size)
            replace HJ := Lib.hid (keeps_mems _ _ _ _ _ _ HJ.out hb hb.size)
            replace HW := Lib.hid (keeps_mems _ _ _ _ _ _ HW.out hb hb.size)
            replace H1 := Lib.hid (keeps_spots _ _ _ _ _ _ H1.out hb hb.size)
            replace B := B.trans (hb.mono B.size)
            clear hb
            rw [HKK.out] at h2
            have H2 := Lib.hid h2
            clear h2
            go_wp2_with fail
            refine (pOnly_any _ _ ot (K.filter fun m => decide (m ∈ J)) V3 HX.out HW.out hok (Nat.le_trans (List.length_filter_le _ _) (by omega))).mono ?_
            rintro e V4 ⟨v3, rfl, h3, hb⟩
            replace HX := Lib.hid (keeps_spots _ _ _ _ _ _ HX.out hb hb.size)
            replace HK := Lib.hid (keeps_mems _ _ _ _ _ _ HK.out hb hb.size)
            replace HJ := Lib.hid (keeps_mems _ _ _ _ _ _ HJ.out hb hb.size)
            replace HW := Lib.hid (keeps_mems _ _ _ _ _ _ HW.out hb hb.size)
            replace H1 := Lib.hid (keeps_spots _ _ _ _ _ _ H1.out hb hb.size)
            replace H2 := Lib.hid (keeps_spots _ _ _ _ _ _ H2.out hb hb.size)
            replace B := B.trans (hb.mono B.size)
            clear hb
            have H3 := Lib.hid h3
            clear h3
            go_wp2_with fail
            refine ((show Calls _ _ _ _ (fun e W' => e = .returned (.bool true) ∧ Below V4.heap.size V4 W') from by have := sameS_any v2 v3 (spo (keepO (K.filter fun m => decide (m ∈ J)) ot)) (spo (keepO (K.filter fun m => decide (m ∈ J)) ot)) V4 H2.out H3.out hl2; rwa [show decide ((spo (keepO (K.filter fun m => decide (m ∈ J)) ot)) = (spo (keepO (K.filter fun m => decide (m ∈ J)) ot))) = true from decide_eq_true rfl] at this)).mono ?_
            rintro e V5 ⟨rfl, hb⟩
            replace HX := Lib.hid (keeps_spots _ _ _ _ _ _ HX.out hb hb.size)
            replace HK := Lib.hid (keeps_mems _ _ _ _ _ _ HK.out hb hb.size)
            replace HJ := Lib.hid (keeps_mems _ _ _ _ _ _ HJ.out hb hb.size)
            replace HW := Lib.hid (keeps_mems _ _ _ _ _ _ HW.out hb hb.size)
            replace H1 := Lib.hid (keeps_spots _ _ _ _ _ _ H1.out hb hb.size)
            replace H2 := Lib.hid (keeps_spots _ _ _ _ _ _ H2.out hb hb.size)
            replace H3 := Lib.hid (keeps_spots _ _ _ _ _ _ H3.out hb hb.size)
            replace B := B.trans (hb.mono B.size)
            clear hb
            go_wp2
            go_ret
            exact ⟨rfl, B⟩
      · have hc : decide ((60 : Int) < (K.length : Int)) = false := decide_eq_false (by omega)
        have hc2 : ¬ (60 < K.length) := by omega
        have hd : decide ((60 : Int) < (J.length : Int)) = true := decide_eq_true (by omega)
        have hd2 : 60 < J.length := by omega
        go_wp2_with fail
        refine (awake11_any W1).mono ?_
        rintro e W9 ⟨rfl, B9⟩
        go_wp2
        go_ret
        exact ⟨rfl, B.trans (B9.mono B.size)⟩
    · have hd : decide ((60 : Int) < (K.length : Int)) = true := decide_eq_true (by omega)
      have hd2 : 60 < K.length := by omega
      go_wp2_with fail
      refine (awake11_any W1).mono ?_
      rintro e W9 ⟨rfl, B9⟩
      go_wp2
      go_ret
      exact ⟨rfl, B.trans (B9.mono B.size)⟩

end Go.Proofs.Ytghnnmgohkfljaa
