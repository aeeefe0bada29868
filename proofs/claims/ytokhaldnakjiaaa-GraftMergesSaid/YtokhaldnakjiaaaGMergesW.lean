/- lodgelaw12.GraftMerges answers true, whatever slice of slices of spots comes in, and leaves memory below as it was. No condition. -/
import Derived.Test.YtokhaldnakjiaaaAwake12
import Derived.Test.YtokhaldnakjiaaaGraD
import Derived.Test.YtokhaldnakjiaaaPruR
namespace Go.Proofs.Ytokhaldnakjiaaa
open Go Go.RowKit
set_option linter.unusedVariables false

set_option maxRecDepth 100000 in
set_option maxHeartbeats 16000000 in
theorem graftMerges_walk (A : Option Addr) (la ca : Nat) (w : World) (h : ∃ xss, Lists w.heap.size w xss [.slice A la ca]) :
    Calls Try.prog 3 #[.slice A la ca] w fun e w' => e = .returned (.bool true) ∧ Below w.heap.size w w' := by
  obtain ⟨xss, hL⟩ := h
  obtain ⟨hs, hH, hlen, hEach⟩ := heads_of_lists hL
  have HH := Lib.hid hH
  have HLN := Lib.hid hlen
  have HES := Lib.hid hEach
  obtain ⟨_, _, e, hlc, hcm, hp⟩ := heads_at hH
  simp only [Value.slice.injEq] at e
  obtain ⟨rfl, hla, rfl⟩ := e
  have hc1 : ca ≤ 9223372036854775807 := Nat.le_trans hcm (by decide)
  have HP := Lib.hid hp
  subst hla
  clear hL hH hlen hEach hcm hp
  go_enter Try.func3, Try.ntmps3
  go_wp2_with fail
  go_loopw [3] (fun iv wr => ∃ (ix : Nat) (wq : World), wq = wr ∧ ix ≤ hs.length ∧ iv = .int .i64 (ix : Int) ∧ Hid (∀ j, (hj : j < xss.length) → j < ix → ∃ ot, xss[j] = spo ot ∧ okT (spo ot) = true ∧ (spo ot).length ≤ 40 ∧ htO ot ≤ 5) ∧ Below w.heap.size w wr) (fun iv _ => hs.length - (intOf iv).toNat)
  case atStart => exact ⟨0, _, rfl, Nat.zero_le _, rfl, Lib.hid (fun j _ hj => absurd hj (Nat.not_lt_zero _)), Below.refl _ _⟩
  case round =>
    obtain ⟨ix, wr, rfl, hi, rfl, HA, B⟩ := hrel
    by_cases hlt : ix < hs.length
    · have hd : decide (ix < hs.length) = true := decide_eq_true hlt
      have hil : (ix : Int) < (hs.length : Int) := by omega
      have hgi : (0 : Int) ≤ (ix : Int) := by omega
      have hix : ix < xss.length := by have := HLN.out; omega
      obtain ⟨g, off, rfl, hgn, hc0⟩ := HP.out ix hlt
      have k0 := (B.cell (p := ⟨g, off + ix, none⟩) hgn).trans hc0
      have HX := Lib.hid (keeps_spots _ _ _ _ _ _ (HES.out ix _ _ (List.getElem?_eq_getElem hlt) (List.getElem?_eq_getElem hix)) B B.size)
      obtain ⟨⟨hA, hN, hK⟩, hq⟩ : ∃ q, hs[ix] = q := ⟨_, rfl⟩
      rw [hq] at k0 HX
      simp only at k0
      obtain ⟨l, hl⟩ : ∃ l, xss[ix] = l := ⟨_, rfl⟩
      rw [hl] at HX
      have HXL := Lib.hid hl
      obtain ⟨b, hb1, hs1⟩ := small12_any l
      have HSM := Lib.hid hs1
      have hgr : g < wr.heap.size := Nat.lt_of_lt_of_le hgn B.size
      clear hq hc0 hgn hs1 hl
      go_wp2_with fail
      refine (HSM.out _ wr HX.out).mono ?_
      rintro e w1 ⟨rfl, hb⟩
      replace HX := Lib.hid (keeps_spots _ _ _ _ _ _ HX.out hb hb.size)
      replace k0 := (hb.cell (p := ⟨g, off + ix, none⟩) hgr).trans k0
      replace B := B.trans (hb.mono B.size)
      clear hb HSM
      cases b with
      | false =>
        clear hb1
        go_wp2_with fail
        refine (awake12_any w1).mono ?_
        rintro e W9 ⟨rfl, B9⟩
        go_wp2
        go_ret
        exact ⟨rfl, B.trans (B9.mono B.size)⟩
      | true =>
        obtain ⟨ot, rfl, hok, h40⟩ := hb1 rfl
        clear hb1
        go_wp2_with fail
        refine (refHeightO_any ot _ w1 HX.out (Nat.le_trans h40 (by decide))).mono ?_
        rintro e w2 ⟨rfl, hb⟩
        replace B := B.trans (hb.mono B.size)
        clear hb k0
        by_cases h5 : htO ot ≤ 5
        · have hd5 : ¬ (5 < htO ot) := by omega
          have HA2 : Hid (∀ j, (hj : j < xss.length) → j < ix + 1 → ∃ ot, xss[j] = spo ot ∧ okT (spo ot) = true ∧ (spo ot).length ≤ 40 ∧ htO ot ≤ 5) := Lib.hid fun j hj h => by
            by_cases e : j = ix
            · subst e
              exact ⟨ot, HXL.out, hok, h40, h5⟩
            · exact HA.out j hj (by omega)
          clear HX h40
          go_wp2
          go_roundw
          case rel => exact ⟨ix + 1, _, rfl, by omega, by go_num, HA2, B⟩
          case measure => simp [intOf]; omega
        · have hd5 : 5 < htO ot := by omega
          go_wp2_with fail
          refine (awake12_any w2).mono ?_
          rintro e W9 ⟨rfl, B9⟩
          go_wp2
          go_ret
          exact ⟨rfl, B.trans (B9.mono B.size)⟩
    · have hd : decide (ix < hs.length) = false := decide_eq_false hlt
      obtain ⟨xs, hxn, hxe⟩ := list_of xss.length (fun j (ot : Option Tr) => (hj : j < xss.length) → xss[j] = spo ot ∧ okT (spo ot) = true ∧ (spo ot).length ≤ 40 ∧ htO ot ≤ 5) (fun j hj => by
        obtain ⟨ot, h1⟩ := HA.out j hj (by have := HLN.out; omega)
        exact ⟨ot, fun _ => h1⟩)
      have HXN : Hid (hs.length = xs.length) := Lib.hid (by have := HLN.out; omega)
      have HXS : Hid (∀ x ∈ xs, okT (spo x) = true ∧ htO x ≤ 5 ∧ (spo x).length ≤ 40) := Lib.hid fun x hx => by
        obtain ⟨j, hj, rfl⟩ := List.getElem_of_mem hx
        obtain ⟨-, h1, h2, h3⟩ := hxe j hj (by omega)
        exact ⟨h1, h3, h2⟩
      have HE : Hid (Each wr.heap.size wr hs xs) := Lib.hid ⟨HXN.out, fun j q x h1 h2 => by
        obtain ⟨hj, e⟩ := List.getElem?_eq_some_iff.1 h2
        subst e
        obtain ⟨h3, -⟩ := hxe j hj (by omega)
        have := HES.out j q (spo xs[j]) h1 (by rw [List.getElem?_eq_getElem (by omega), h3])
        exact keeps_spots _ _ _ _ _ _ this B B.size⟩
      replace HH := Lib.hid (keeps_heads _ _ _ _ _ _ HH.out B B.size)
      clear hxn hxe HA hlt
      by_cases h8 : hs.length ≤ 8
      · have hd8 : ¬ (8 < hs.length) := by omega
        have hn8 : xs.length ≤ 8 := by have := HXN.out; omega
        go_wp2_with fail
        refine (apart_any _ hs xs wr HH.out HE.out (by omega) (fun x hx => ⟨(okT_parts (HXS.out x hx).1).1, okT_few (HXS.out x hx).1⟩)).mono ?_
        rintro e w1 ⟨rfl, hb⟩
        replace HH := Lib.hid (keeps_heads _ _ _ _ _ _ HH.out hb hb.size)
        replace HE := Lib.hid (HE.out.keep hb hb.size)
        replace B := B.trans (hb.mono B.size)
        clear hb
        cases hap : apartO xs with
        | false =>
          clear hap
          go_wp2_with fail
          refine (awake12_any w1).mono ?_
          rintro e W9 ⟨rfl, B9⟩
          go_wp2
          go_ret
          exact ⟨rfl, B.trans (B9.mono B.size)⟩
        | true =>
          have hap2 : (allO xs).Nodup ∧ (allO xs).length ≤ 60 := by
            unfold apartO at hap
            simpa only [Bool.and_eq_true, decide_eq_true_eq] using hap
          have HMF := Lib.hid (merge_facts hn8 (fun x hx => ⟨(HXS.out x hx).1, (HXS.out x hx).2.1⟩) hap2.1 hap2.2)
          have HAP := Lib.hid hap2
          clear hap hap2
          go_wp2_with fail
          refine (awake12_any w1).mono ?_
          rintro e w2 ⟨rfl, hb⟩
          replace HH := Lib.hid (keeps_heads _ _ _ _ _ _ HH.out hb hb.size)
          replace HE := Lib.hid (HE.out.keep hb hb.size)
          replace B := B.trans (hb.mono B.size)
          clear hb
          go_wp2_with fail
          refine (gMerge_any _ hs xs w2 HH.out HE.out hn8 (fun x hx => ⟨(HXS.out x hx).1, (HXS.out x hx).2.1⟩) HAP.out.1 HAP.out.2).mono ?_
          rintro e w3 ⟨v1, rfl, hv1, hb⟩
          have HV1 := Lib.hid hv1
          replace HH := Lib.hid (keeps_heads _ _ _ _ _ _ HH.out hb hb.size)
          replace HE := Lib.hid (HE.out.keep hb hb.size)
          replace B := B.trans (hb.mono B.size)
          clear hb hv1
          go_wp2_with fail
          refine (refMerge_any _ hs xs w3 HH.out HE.out (by omega) (fun x hx => ⟨Nat.le_trans (HXS.out x hx).2.2 (by decide), by have := (HXS.out x hx).2.1; omega⟩) HMF.out.1).mono ?_
          rintro e w4 ⟨v2, rfl, hv2, hb⟩
          have HV2 := Lib.hid hv2
          replace HV1 := Lib.hid (keeps_spots _ _ _ _ _ _ HV1.out hb hb.size)
          replace B := B.trans (hb.mono B.size)
          clear hb hv2
          go_wp2_with fail
          refine ((show Calls _ _ _ _ (fun e W' => e = .returned (.bool true) ∧ Below w4.heap.size w4 W') from by have := sameS_any v1 v2 (spo (mergeO xs)) (spo (mergeO xs)) w4 HV1.out HV2.out (Nat.le_trans (okT_parts HMF.out.2.1).1 (by decide)); rwa [show decide ((spo (mergeO xs)) = (spo (mergeO xs))) = true from decide_eq_true rfl] at this)).mono ?_
          rintro e w5 ⟨rfl, hb⟩
          go_wp2
          go_ret
          exact ⟨rfl, B.trans (hb.mono B.size)⟩
      · have hd8 : 8 < hs.length := by omega
        go_wp2_with fail
        refine (awake12_any wr).mono ?_
        rintro e W9 ⟨rfl, B9⟩
        go_wp2
        go_ret
        exact ⟨rfl, B.trans (B9.mono B.size)⟩

end Go.Proofs.Ytokhaldnakjiaaa
