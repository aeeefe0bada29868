/- lodgelaw12.GraftOrder answers true, whatever slice of slices of spots and number come in, and leaves memory below as it was. No condition. -/
import Derived.Test.YtokhaldnakjiaaaAwake12
import Derived.Test.YtokhaldnakjiaaaGraD
import Derived.Test.YtokhaldnakjiaaaLabO
import Derived.Test.YtokhaldnakjiaaaPhaseA
import Derived.Test.YtokhaldnakjiaaaPruR
namespace Go.Proofs.Ytokhaldnakjiaaa
open Go Go.RowKit
set_option linter.unusedVariables false

/-- Told in two parts, the other way round. -/
theorem swap_facts {xs : List (Option Tr)} (k : Nat) (hd : (allO xs).Nodup) (hl : (allO xs).length ≤ 60) : (allO (xs.drop k ++ xs.take k)).Nodup ∧ (allO (xs.drop k ++ xs.take k)).length ≤ 60 ∧ mergeO (xs.drop k ++ xs.take k) = mergeO xs := by
  have e : xs = xs.take k ++ xs.drop k := (List.take_append_drop k xs).symm
  have hp : (allO (xs.drop k ++ xs.take k)).Perm (allO xs) := by
    rw [allO_append]
    conv => rhs; rw [e, allO_append]
    exact List.perm_append_comm
  refine ⟨hp.nodup_iff.2 hd, by rw [hp.length_eq]; exact hl, ?_⟩
  rw [mergeO_swap (hp.nodup_iff.2 hd), ← e]
/-- Nobody is in no tree that may be. -/
theorem no_zero {x : Option Tr} (h : okT (spo x) = true) : offO x (0, 0) = none := by
  cases x with
  | none => rfl
  | some t =>
    show off t (0, 0) = none
    rw [off_none]
    intro hm
    have := once_ok (okT_parts h).2.2 hm
    revert this
    decide
set_option maxRecDepth 100000 in
set_option maxHeartbeats 16000000 in
theorem graftOrder_walk (A : Option Addr) (la ca : Nat) (n : Int) (w : World) (h : ∃ xss, Lists w.heap.size w xss [.slice A la ca]) (hn : (Lit.int .u8 n).wf = true) :
    Calls Try.prog 6 #[.slice A la ca, .int .u8 n] w fun e w' => e = .returned (.bool true) ∧ Below w.heap.size w w' := by
  have hx : 0 ≤ n ∧ n ≤ 255 := by simpa [Lit.wf, IntKind.min, IntKind.max, IntKind.signed, IntKind.bits] using hn
  obtain ⟨xss, hL⟩ := h
  obtain ⟨hs, hH, hlen, hEach⟩ := heads_of_lists hL
  have HH := Lib.hid hH
  have HLN := Lib.hid hlen
  have HES := Lib.hid hEach
  obtain ⟨_, _, e, hlc, hcm, hp⟩ := heads_at hH
  simp only [Value.slice.injEq] at e
  obtain ⟨rfl, hla, rfl⟩ := e
  have hc1 : ca ≤ 9223372036854775807 := Nat.le_trans hcm (by decide)
  have HP := Lib.hid hp
  subst hla
  clear hL hH hlen hEach hcm hp
  go_enter Try.func6, Try.ntmps6
  go_wp2_with fail
  go_loopw [5] (fun iv wr => ∃ (ix : Nat) (wq : World), wq = wr ∧ ix ≤ hs.length ∧ iv = .int .i64 (ix : Int) ∧ Hid (∀ j, (hj : j < xss.length) → j < ix → ∃ ot, xss[j] = spo ot ∧ okT (spo ot) = true ∧ (spo ot).length ≤ 40 ∧ htO ot ≤ 5) ∧ Below w.heap.size w wr) (fun iv _ => hs.length - (intOf iv).toNat)
  case atStart => exact ⟨0, _, rfl, Nat.zero_le _, rfl, Lib.hid (fun j _ hj => absurd hj (Nat.not_lt_zero _)), Below.refl _ _⟩
  case round =>
    obtain ⟨ix, wr, rfl, hi, rfl, HA, B⟩ := hrel
    by_cases hlt : ix < hs.length
    · have hd : decide (ix < hs.length) = true := decide_eq_true hlt
      have hil : (ix : Int) < (hs.length : Int) := by omega
      have hgi : (0 : Int) ≤ (ix : Int) := by omega
      have hix : ix < xss.length := by have := HLN.out; omega
      obtain ⟨g, off, rfl, hgn, hc0⟩ := HP.out ix hlt
      have k0 := (B.cell (p := ⟨g, off + ix, none⟩) hgn).trans hc0
      have HX := Lib.hid (keeps_spots _ _ _ _ _ _ (HES.out ix _ _ (List.getElem?_eq_getElem hlt) (List.getElem?_eq_getElem hix)) B B.size)
      obtain ⟨⟨hA, hN, hK⟩, hq⟩ : ∃ q, hs[ix] = q := ⟨_, rfl⟩
      rw [hq] at k0 HX
      simp only at k0
      obtain ⟨l, hl⟩ : ∃ l, xss[ix] = l := ⟨_, rfl⟩
      rw [hl] at HX
      have HXL := Lib.hid hl
      obtain ⟨b, hb1, hs1⟩ := small12_any l
      have HSM := Lib.hid hs1
      have hgr : g < wr.heap.size := Nat.lt_of_lt_of_le hgn B.size
      clear hq hc0 hgn hs1 hl
      go_wp2_with fail
      refine (HSM.out _ wr HX.out).mono ?_
      rintro e w1 ⟨rfl, hb⟩
      replace HX := Lib.hid (keeps_spots _ _ _ _ _ _ HX.out hb hb.size)
      replace k0 := (hb.cell (p := ⟨g, off + ix, none⟩) hgr).trans k0
      replace B := B.trans (hb.mono B.size)
      clear hb HSM
      cases b with
      | false =>
        clear hb1
        go_wp2_with fail
        refine (awake12_any w1).mono ?_
        rintro e W9 ⟨rfl, B9⟩
        go_wp2
        go_ret
        exact ⟨rfl, B.trans (B9.mono B.size)⟩
      | true =>
        obtain ⟨ot, rfl, hok, h40⟩ := hb1 rfl
        clear hb1
        go_wp2_with fail
        refine (refHeightO_any ot _ w1 HX.out (Nat.le_trans h40 (by decide))).mono ?_
        rintro e w2 ⟨rfl, hb⟩
        replace B := B.trans (hb.mono B.size)
        clear hb k0
        by_cases h5 : htO ot ≤ 5
        · have hd5 : ¬ (5 < htO ot) := by omega
          have HA2 : Hid (∀ j, (hj : j < xss.length) → j < ix + 1 → ∃ ot, xss[j] = spo ot ∧ okT (spo ot) = true ∧ (spo ot).length ≤ 40 ∧ htO ot ≤ 5) := Lib.hid fun j hj h => by
            by_cases e : j = ix
            · subst e
              exact ⟨ot, HXL.out, hok, h40, h5⟩
            · exact HA.out j hj (by omega)
          clear HX h40
          go_wp2
          go_roundw
          case rel => exact ⟨ix + 1, _, rfl, by omega, by go_num, HA2, B⟩
          case measure => simp [intOf]; omega
        · have hd5 : 5 < htO ot := by omega
          go_wp2_with fail
          refine (awake12_any w2).mono ?_
          rintro e W9 ⟨rfl, B9⟩
          go_wp2
          go_ret
          exact ⟨rfl, B.trans (B9.mono B.size)⟩
    · have hd : decide (ix < hs.length) = false := decide_eq_false hlt
      obtain ⟨xs, hxn, hxe⟩ := list_of xss.length (fun j (ot : Option Tr) => (hj : j < xss.length) → xss[j] = spo ot ∧ okT (spo ot) = true ∧ (spo ot).length ≤ 40 ∧ htO ot ≤ 5) (fun j hj => by
        obtain ⟨ot, h1⟩ := HA.out j hj (by have := HLN.out; omega)
        exact ⟨ot, fun _ => h1⟩)
      have HXN : Hid (hs.length = xs.length) := Lib.hid (by have := HLN.out; omega)
      have HXS : Hid (∀ x ∈ xs, okT (spo x) = true ∧ htO x ≤ 5 ∧ (spo x).length ≤ 40) := Lib.hid fun x hx => by
        obtain ⟨j, hj, rfl⟩ := List.getElem_of_mem hx
        obtain ⟨-, h1, h2, h3⟩ := hxe j hj (by omega)
        exact ⟨h1, h3, h2⟩
      have HE : Hid (Each wr.heap.size wr hs xs) := Lib.hid ⟨HXN.out, fun j q x h1 h2 => by
        obtain ⟨hj, e⟩ := List.getElem?_eq_some_iff.1 h2
        subst e
        obtain ⟨h3, -⟩ := hxe j hj (by omega)
        have := HES.out j q (spo xs[j]) h1 (by rw [List.getElem?_eq_getElem (by omega), h3])
        exact keeps_spots _ _ _ _ _ _ this B B.size⟩
      replace HH := Lib.hid (keeps_heads _ _ _ _ _ _ HH.out B B.size)
      clear hxn hxe HA hlt
      by_cases h8 : hs.length ≤ 8
      · have hd8 : ¬ (8 < hs.length) := by omega
        have hn8 : xs.length ≤ 8 := by have := HXN.out; omega
        by_cases h0 : hs.length = 0
        · have hd0 : ((hs.length : Int) == 0) = true := by rw [h0]; rfl
          go_wp2_with fail
          refine (awake12_any wr).mono ?_
          rintro e W9 ⟨rfl, B9⟩
          go_wp2
          go_ret
          exact ⟨rfl, B.trans (B9.mono B.size)⟩
        · have hd0 : ((hs.length : Int) == 0) = false := beq_eq_false_iff_ne.2 (by omega)
          go_wp2_with fail
          refine (apart_any _ hs xs wr HH.out HE.out (by omega) (fun x hx => ⟨(okT_parts (HXS.out x hx).1).1, okT_few (HXS.out x hx).1⟩)).mono ?_
          rintro e w1 ⟨rfl, hb⟩
          replace HH := Lib.hid (keeps_heads _ _ _ _ _ _ HH.out hb hb.size)
          replace HE := Lib.hid (HE.out.keep hb hb.size)
          replace B := B.trans (hb.mono B.size)
          clear hb
          cases hap : apartO xs with
          | false =>
            clear hap
            go_wp2_with fail
            refine (awake12_any w1).mono ?_
            rintro e W9 ⟨rfl, B9⟩
            go_wp2
            go_ret
            exact ⟨rfl, B.trans (B9.mono B.size)⟩
          | true =>
            have hap2 : (allO xs).Nodup ∧ (allO xs).length ≤ 60 := by
              unfold apartO at hap
              simpa only [Bool.and_eq_true, decide_eq_true_eq] using hap
            have HMF := Lib.hid (merge_facts hn8 (fun x hx => ⟨(HXS.out x hx).1, (HXS.out x hx).2.1⟩) hap2.1 hap2.2)
            have HAP := Lib.hid hap2
            have HAL := Lib.hid (fun ix hi => allO_len xs ix hi (fun x hx => okT_few (HXS.out x hx).1))
            obtain ⟨kk, hkk⟩ : ∃ kk : Nat, n % (hs.length : Int) = (kk : Int) := ⟨(n % (hs.length : Int)).toNat, by have := Int.emod_nonneg n (show (hs.length : Int) ≠ 0 by omega); omega⟩
            have hkl : kk < hs.length := by have := Int.emod_lt_of_pos n (show (0 : Int) < (hs.length : Int) by omega); omega
            have hkt : Int.tmod n (hs.length : Int) = (kk : Int) := by rw [Int.tmod_eq_emod_of_nonneg hx.1]; exact hkk
            have HSW := Lib.hid (swap_facts (xs := xs) kk hap2.1 hap2.2)
            clear hap hap2 hkk
            have hnz : (hs.length : Int) ≠ 0 := by omega
            go_wp2_with fail
            clear hkt hnz hd0 hd8
            obtain ⟨w2, hw2⟩ : ∃ w2, w1 = w2 := ⟨_, rfl⟩
            rw [hw2] at HH HE B
            rw [hw2]
            clear hw2
            obtain ⟨AD, hrD, hSD⟩ := heads_from HH.out rfl kk (by omega)
            obtain ⟨AC, hrC, hSC⟩ := heads_to HH.out rfl hlc kk (by omega)
            have HDr := Lib.hid hSD
            have HTk := Lib.hid hSC
            clear hSD hSC
            refine wp_region_results (fun r i => ([r 0, .slice A hs.length ca, .int .i64 (kk : Int), .slice AD (hs.length - kk) (ca - kk), r 1, .slice A hs.length ca, .int .i64 (kk : Int), .slice AC kk ca, r 2, r 2] : List Value).getD i undef) [0, 4, 8] [0, 0, 0, 0, 1, 0, 0, 0, 2, 3] (fun r q w' => Below w2.heap.size w2 w' ∧ (q = 1 → w'.ownsRow w2.heap.size 24 1 (r 0) 0 []) ∧ (q = 2 → w'.ownsRow w2.heap.size 24 1 (r 1) (0 + (hs.drop kk).length) ([] ++ (hs.drop kk).flatMap hC)) ∧ (q = 3 → w'.ownsRow w2.heap.size 24 1 (r 2) (0 + (hs.drop kk).length + (hs.take kk).length) ([] ++ (hs.drop kk).flatMap hC ++ (hs.take kk).flatMap hC))) (by kernel_rfl) (by kernel_rfl) (fun r => ⟨⟨rfl, rfl, rfl, Nat.le_refl _, fun _ _ => rfl⟩, (by intro h; cases h), (by intro h; cases h), (by intro h; cases h)⟩) ?_ ?_
            · refine ObsR_of_ends (by kernel_rfl) ?_
              intro r Fr hEA
              refine ⟨?_, ?_, ?_, ?_, ?_, ?_, ?_, ?_, ?_, ?_, trivial⟩
              · refine obR_make (q := 0) (want_none rfl) (by kernel_rfl) (fun w' hw => ?_)
                exact ⟨.slice (some ⟨w'.heap.size, 0, none⟩) 0 0, w'.alloc (.cells #[] 24), by simp [execOp, go_sem], fun r' hr hv => ⟨hv, hw.1.alloc hw.1.size _, fun _ => by rw [hv]; exact owns_empty w' _ 1 hw.1.size, (by intro h; cases h), (by intro h; cases h)⟩⟩
              · exact obR_move _ rfl (want_none rfl) (by kernel_rfl) (eval_out hEA (d := 0) (by kernel_rfl))
              · exact obR_move _ rfl (want_none rfl) (by kernel_rfl) (eval_out hEA (d := 6) (by kernel_rfl))
              · refine obR_val (want_none rfl) (by kernel_rfl) (fun ph w' hp hpm hw => ?_)
                have e54 : Fr.tmps[54]? = some (.slice A hs.length ca) := hEA.dst 1 _ 54 rfl rfl; have e55 : Fr.tmps[55]? = some (.int .i64 (kk : Int)) := hEA.dst 2 _ 55 rfl rfl; simp [execOp, e54, e55, hrD, go_sem]
              · refine obR_make (q := 1) (want_none rfl) (by kernel_rfl) (fun w' hw => ?_)
                exact run_append_heads_then w' (.tmp 53) (.tmp 56) rfl w2.heap.size (r 0) 0 [] (eval_dst hEA (j := 0) rfl rfl) (hw.2.1 rfl) w'.heap.size _ (hs.drop kk) (eval_dst hEA (j := 3) rfl rfl) (keeps_heads _ _ _ _ _ _ HDr.out hw.1 hw.1.size) (by simp only [List.length_drop]; omega) hw.1.size (fun v' w3 hown hg r' hr hv => ⟨hv, hw.1.grown hg hw.1.size (fun k hk => ((hw.2.1 rfl).lt k hk).1), (by intro h; cases h), (fun _ => by rw [hv]; exact hown), (by intro h; cases h)⟩)
              · exact obR_move _ rfl (want_none rfl) (by kernel_rfl) (eval_out hEA (d := 0) (by kernel_rfl))
              · exact obR_move _ rfl (want_none rfl) (by kernel_rfl) (eval_out hEA (d := 6) (by kernel_rfl))
              · refine obR_val (want_none rfl) (by kernel_rfl) (fun ph w' hp hpm hw => ?_)
                have e58 : Fr.tmps[58]? = some (.slice A hs.length ca) := hEA.dst 5 _ 58 rfl rfl; have e59 : Fr.tmps[59]? = some (.int .i64 (kk : Int)) := hEA.dst 6 _ 59 rfl rfl; simp [execOp, e58, e59, hrC, go_sem]
              · refine obR_make (q := 2) (want_none rfl) (by kernel_rfl) (fun w' hw => ?_)
                exact run_append_heads_then w' (.tmp 57) (.tmp 60) rfl w2.heap.size (r 1) _ _ (eval_dst hEA (j := 4) rfl rfl) (hw.2.2.1 rfl) w'.heap.size _ (hs.take kk) (eval_dst hEA (j := 7) rfl rfl) (keeps_heads _ _ _ _ _ _ HTk.out hw.1 hw.1.size) (by simp only [List.length_drop, List.length_take]; omega) hw.1.size (fun v' w3 hown hg r' hr hv => ⟨hv, hw.1.grown hg hw.1.size (fun k hk => ((hw.2.2.1 rfl).lt k hk).1), (by intro h; cases h), (by intro h; cases h), (fun _ => by rw [hv]; exact hown)⟩)
              · refine obR_val (want_none rfl) (by kernel_rfl) (fun ph w' hp hpm hw => ?_)
                have e61 : Fr.tmps[61]? = some (r 2) := hEA.dst 8 _ 61 rfl rfl; simp [execOp, e61, go_sem]
            · intro r w' hw
              simp only [laid, Act.put, List.setIfInBounds_toArray, List.set_cons_succ, List.set_cons_zero, List.getD_cons_succ, List.getD_cons_zero, Nat.zero_add, Nat.reduceAdd]
              have hown := hw.2.2.2 rfl
              obtain ⟨r2, hr2⟩ : ∃ r2, r 2 = r2 := ⟨_, rfl⟩
              rw [hr2] at hown
              try rw [hr2]
              obtain ⟨w5, hw5⟩ : ∃ w5, w' = w5 := ⟨_, rfl⟩
              have hb := hw.1
              rw [hw5] at hown hb
              rw [hw5]
              have HM : Hid (Heads w5.heap.size w5 (hs.drop kk ++ hs.take kk) [r2]) := Lib.hid (by
                refine own_heads (base := w2.heap.size) ?_
                have e1 : (hs.drop kk ++ hs.take kk).length = 0 + (hs.drop kk).length + (hs.take kk).length := by simp only [List.length_append]; omega
                have e2 : (hs.drop kk ++ hs.take kk).flatMap hC = [] ++ (hs.drop kk).flatMap hC ++ (hs.take kk).flatMap hC := by simp
                rw [e1, e2]
                exact hown)
              replace HH := Lib.hid (keeps_heads _ _ _ _ _ _ HH.out hb hb.size)
              replace HE := Lib.hid (HE.out.keep hb hb.size)
              replace B := B.trans (hb.mono B.size)
              have HME := Lib.hid ((HE.out.drop kk).append (HE.out.take kk))
              clear hown hw hb hw5 hr2 HDr HTk hrC hrD
              go_wp2_with fail
              refine (gMerge_any _ hs xs w5 HH.out HE.out hn8 (fun x hx => ⟨(HXS.out x hx).1, (HXS.out x hx).2.1⟩) HAP.out.1 HAP.out.2).mono ?_
              rintro e w4 ⟨vz, rfl, hvz, hb⟩
              have HZ := Lib.hid hvz
              replace HH := Lib.hid (keeps_heads _ _ _ _ _ _ HH.out hb hb.size)
              replace HE := Lib.hid (HE.out.keep hb hb.size)
              replace HM := Lib.hid (keeps_heads _ _ _ _ _ _ HM.out hb hb.size)
              replace HME := Lib.hid (HME.out.keep hb hb.size)
              replace B := B.trans (hb.mono B.size)
              clear hb hvz
              obtain ⟨A4, c4, e, -, -, hp4⟩ := heads_at HH.out
              simp only [Value.slice.injEq] at e
              obtain ⟨rfl, -, rfl⟩ := e
              have HP4 := Lib.hid hp4
              clear hp4
              go_wp2_with fail
              go_loopw [9, 10] (fun nv iv wz => ∃ (ix : Nat) (wq : World), wq = wz ∧ ix ≤ hs.length ∧ iv = .int .i64 (ix : Int) ∧ nv = .int .i64 ((allO (xs.take ix)).length : Int) ∧ Below w4.heap.size w4 wz) (fun _ iv _ => hs.length - (intOf iv).toNat)
              case atStart => exact ⟨0, _, rfl, Nat.zero_le _, rfl, by simp [allO], Below.refl _ _⟩
              case round =>
                obtain ⟨ix, wz, rfl, hi, rfl, rfl, Bz⟩ := hrel
                by_cases hlt : ix < hs.length
                · have hd : decide (ix < hs.length) = true := decide_eq_true hlt
                  have hil : (ix : Int) < (hs.length : Int) := by omega
                  have hgi : (0 : Int) ≤ (ix : Int) := by omega
                  have hix : ix < xs.length := by have := HXN.out; omega
                  obtain ⟨g, off, rfl, hgn, hc0⟩ := HP4.out ix hlt
                  have k0 := (Bz.cell (p := ⟨g, off + ix, none⟩) hgn).trans hc0
                  have hgz : g < wz.heap.size := Nat.lt_of_lt_of_le hgn Bz.size
                  have HX := Lib.hid (keeps_spots _ _ _ _ _ _ (each_at HE.out ix hlt hix) Bz Bz.size)
                  have HZ := Lib.hid (keeps_spots _ _ _ _ _ _ HZ.out Bz Bz.size)
                  have HXB := Lib.hid (HXS.out _ (List.getElem_mem hix))
                  have HKE := Lib.hid (HMF.out.2.2.2.2 _ (List.getElem_mem hix))
                  have HSN := Lib.hid (congrArg List.length (allO_snoc xs ix hix))
                  have hal := HAL.out ix (by omega)
                  obtain ⟨⟨hA, hN, hK⟩, hq⟩ : ∃ q, hs[ix] = q := ⟨_, rfl⟩
                  rw [hq] at k0 HX
                  simp only at k0
                  obtain ⟨x, hxe⟩ : ∃ x, xs[ix] = x := ⟨_, rfl⟩
                  rw [hxe] at HX HXB HKE HSN
                  rw [List.length_append] at HSN
                  have hxl : (spo x).length ≤ 1000000 := Nat.le_trans HXB.out.2.2 (by decide)
                  obtain ⟨z, hz⟩ : ∃ z, mergeO xs = z := ⟨_, rfl⟩
                  have hzl : (spo z).length ≤ 400000 := by rw [← hz]; exact Nat.le_trans (okT_parts HMF.out.2.1).1 (by decide)
                  rw [hz] at HZ HKE
                  clear hq hxe hc0 hgn hz
                  go_wp2_with fail
                  refine (refLeaves_any _ (spo x) wz HX.out hxl).mono ?_
                  rintro e w3 ⟨vm, rfl, hvm, hb⟩
                  obtain ⟨nm, hnm⟩ : ∃ n, (lvO x).length = n := ⟨_, rfl⟩
                  obtain ⟨Am, cm, rfl, -, hcm⟩ := mems_len hvm nm hnm
                  have hnml : nm ≤ 1000 := by have := okT_few HXB.out.1; have h9 : (lv (spo x)).length = nm := hnm; omega
                  rw [hnm] at HSN
                  replace HX := Lib.hid (keeps_spots _ _ _ _ _ _ HX.out hb hb.size)
                  replace HZ := Lib.hid (keeps_spots _ _ _ _ _ _ HZ.out hb hb.size)
                  replace k0 := (hb.cell (p := ⟨g, off + ix, none⟩) hgz).trans k0
                  have hgw : g < w3.heap.size := Nat.lt_of_lt_of_le hgz hb.size
                  replace Bz := Bz.trans (hb.mono Bz.size)
                  clear hb hvm hnm hgz
                  obtain ⟨na, hna⟩ : ∃ n, (allO (xs.take ix)).length = n := ⟨_, rfl⟩
                  rw [hna] at HSN hal
                  rw [hna]
                  clear hna
                  go_wp2_with fail
                  refine wp_region_results (fun r i => ([vz, .slice (some ⟨g, off, none⟩) hs.length ca, .int .i64 (ix : Int), .pointer (some ⟨g, off + ix, none⟩), .slice hA hN hK, (r 0), (r 1), .slice (some ⟨g, off, none⟩) hs.length ca, .int .i64 (ix : Int), .pointer (some ⟨g, off + ix, none⟩), .slice hA hN hK, .bool true, .bool false] : List Value).getD i undef) [5, 6, 11] [0, 0, 0, 0, 0, 0, 1, 0, 0, 0, 0, 2, 3] (fun r q w' => (Below w3.heap.size w3 w') ∧ (0 < q → Mems w'.heap.size w' (lvO x) [(r 0)]) ∧ (1 < q → Spots w'.heap.size w' (spo x) [(r 1)])) (by kernel_rfl) (by kernel_rfl) (fun r => ⟨⟨rfl, rfl, rfl, Nat.le_refl _, fun _ _ => rfl⟩, fun h => absurd h (Nat.not_lt_zero _), fun h => absurd h (Nat.not_lt_zero _)⟩) ?_ ?_
                  · refine ObsR_of_ends (by kernel_rfl) ?_
                    intro r Fr hEA
                    refine ⟨?_, ?_, ?_, ?_, ?_, ?_, ?_, ?_, ?_, ?_, ?_, ?_, ?_, trivial⟩
                    · exact obR_move _ rfl (want_none rfl) (by kernel_rfl) (eval_out hEA (d := 8) (by kernel_rfl))
                    · exact obR_move _ rfl (want_none rfl) (by kernel_rfl) (eval_out hEA (d := 0) (by kernel_rfl))
                    · exact obR_move _ rfl (want_none rfl) (by kernel_rfl) (eval_out hEA (d := 10) (by kernel_rfl))
                    · refine obR_val (want_none rfl) (by kernel_rfl) (fun ph w' hp hpm hw => ?_)
                      have e79 : Fr.tmps[79]? = some (.slice (some ⟨g, off, none⟩) hs.length ca) := hEA.dst 1 _ 79 rfl rfl; have e80 : Fr.tmps[80]? = some (.int .i64 (ix : Int)) := hEA.dst 2 _ 80 rfl rfl; simp [execOp, e79, e80, hil, hgi, go_sem]
                    · refine obR_val (want_none rfl) (by kernel_rfl) (fun ph w' hp hpm hw => ?_)
                      have hc0 := (hw.1.cell (p := ⟨g, off + ix, none⟩) hgw).trans k0
                      have e81 : Fr.tmps[81]? = some (.pointer (some ⟨g, off + ix, none⟩)) := hEA.dst 3 _ 81 rfl rfl; simp [execOp, e81, hc0, go_sem]
                    · refine obR_call (q := 0) (f := 19) (args := #[.slice hA hN hK]) (want_none rfl) (by kernel_rfl) (fun w' => by have e82 : Fr.tmps[82]? = some (.slice hA hN hK) := hEA.dst 4 _ 82 rfl rfl; simp [e82, go_sem]) ?_
                      intro w' hw
                      refine (refLeaves_any _ (spo x) w' (keeps_spots _ _ _ _ _ _ HX.out hw.1 hw.1.size) hxl).mono ?_
                      rintro e w2 ⟨v', rfl, hs, hb⟩
                      exact ⟨_, rfl, fun r' hr hv => ⟨hv, ⟨hw.1.trans (hb.mono hw.1.size), fun _ => by rw [hv]; exact hs, fun h => absurd h (by decide)⟩⟩⟩
                    · refine obR_call (q := 1) (f := 18) (args := #[vz, (r 0)]) (want_none rfl) (by kernel_rfl) (fun w' => by have e78 : Fr.tmps[78]? = some (vz) := hEA.dst 0 _ 78 rfl rfl; have e83 : Fr.tmps[83]? = some ((r 0)) := hEA.dst 5 _ 83 rfl rfl; simp [e78, e83, go_sem]) ?_
                      intro w' hw
                      refine ((show Calls _ _ _ _ (fun e W' => ∃ v', e = .returned v' ∧ Spots W'.heap.size W' (spo x) [v'] ∧ Below w'.heap.size w' W') from by have := refOnly_any vz (r 0) z (lvO x) w' (keeps_spots _ _ _ _ _ _ HZ.out hw.1 hw.1.size) (hw.2.1 (by decide)) hzl; rwa [HKE.out] at this)).mono ?_
                      rintro e w2 ⟨v', rfl, hs, hb⟩
                      exact ⟨_, rfl, fun r' hr hv => ⟨hv, ⟨hw.1.trans (hb.mono hw.1.size), fun _ => by rw [hr 0 (by decide)]; exact keeps_mems _ _ _ _ _ _ (hw.2.1 (by decide)) hb hb.size, fun _ => by rw [hv]; exact hs⟩⟩⟩
                    · exact obR_move _ rfl (want_none rfl) (by kernel_rfl) (eval_out hEA (d := 0) (by kernel_rfl))
                    · exact obR_move _ rfl (want_none rfl) (by kernel_rfl) (eval_out hEA (d := 10) (by kernel_rfl))
                    · refine obR_val (want_none rfl) (by kernel_rfl) (fun ph w' hp hpm hw => ?_)
                      have e85 : Fr.tmps[85]? = some (.slice (some ⟨g, off, none⟩) hs.length ca) := hEA.dst 7 _ 85 rfl rfl; have e86 : Fr.tmps[86]? = some (.int .i64 (ix : Int)) := hEA.dst 8 _ 86 rfl rfl; simp [execOp, e85, e86, hil, hgi, go_sem]
                    · refine obR_val (want_none rfl) (by kernel_rfl) (fun ph w' hp hpm hw => ?_)
                      have hc0 := (hw.1.cell (p := ⟨g, off + ix, none⟩) hgw).trans k0
                      have e87 : Fr.tmps[87]? = some (.pointer (some ⟨g, off + ix, none⟩)) := hEA.dst 9 _ 87 rfl rfl; simp [execOp, e87, hc0, go_sem]
                    · refine obR_call (q := 2) (f := 12) (args := #[(r 1), .slice hA hN hK]) (want_none rfl) (by kernel_rfl) (fun w' => by have e84 : Fr.tmps[84]? = some ((r 1)) := hEA.dst 6 _ 84 rfl rfl; have e88 : Fr.tmps[88]? = some (.slice hA hN hK) := hEA.dst 10 _ 88 rfl rfl; simp [e84, e88, go_sem]) ?_
                      intro w' hw
                      refine ((show Calls _ _ _ _ (fun e W' => e = .returned (.bool true) ∧ Below w'.heap.size w' W') from by have := sameS_any (r 1) _ (spo x) (spo x) w' (hw.2.2 (by decide)) (keeps_spots _ _ _ _ _ _ HX.out hw.1 hw.1.size) hxl; rwa [show decide (spo x = spo x) = true from decide_eq_true rfl] at this)).mono ?_
                      rintro e w2 ⟨rfl, hb⟩
                      exact ⟨_, rfl, fun r' hr hv => ⟨rfl, ⟨hw.1.trans (hb.mono hw.1.size), fun _ => by rw [hr 0 (by decide)]; exact keeps_mems _ _ _ _ _ _ (hw.2.1 (by decide)) hb hb.size, fun _ => by rw [hr 1 (by decide)]; exact keeps_spots _ _ _ _ _ _ (hw.2.2 (by decide)) hb hb.size⟩⟩⟩
                    · refine obR_val (want_none rfl) (by kernel_rfl) (fun ph w' hp hpm hw => ?_)
                      have e89 : Fr.tmps[89]? = some (.bool true) := hEA.dst 11 _ 89 rfl rfl; simp [execOp, e89, go_sem]
                  · intro r w' hw
                    simp only [laid, Act.put, List.setIfInBounds_toArray, List.set_cons_succ, List.set_cons_zero, List.getD_cons_succ, List.getD_cons_zero, Nat.zero_add, Nat.reduceAdd]
                    obtain ⟨wn, hwn⟩ : ∃ wn, w' = wn := ⟨_, rfl⟩
                    have hb := hw.1
                    rw [hwn] at hb
                    rw [hwn]
                    have BN := Bz.trans (hb.mono Bz.size)
                    clear hw hb hwn
                    go_wp2
                    go_roundw
                    case rel => exact ⟨ix + 1, _, rfl, by omega, by go_num, by rw [HSN.out]; go_num, BN⟩
                    case measure => simp [intOf]; omega
                · have hd : decide (ix < hs.length) = false := decide_eq_false hlt
                  have hie : xs.take ix = xs := List.take_of_length_le (by have := HXN.out; omega)
                  have HIE := Lib.hid (congrArg (fun q => (allO q).length) hie)
                  obtain ⟨na, hna⟩ : ∃ n, (allO (xs.take ix)).length = n := ⟨_, rfl⟩
                  have HNA : Hid (na = (allO xs).length) := Lib.hid (by rw [← hna]; exact HIE.out)
                  rw [hna]
                  replace HZ := Lib.hid (keeps_spots _ _ _ _ _ _ HZ.out Bz Bz.size)
                  replace HM := Lib.hid (keeps_heads _ _ _ _ _ _ HM.out Bz Bz.size)
                  replace HME := Lib.hid (HME.out.keep Bz Bz.size)
                  replace B := B.trans (Bz.mono B.size)
                  clear hie hna hlt Bz HIE
                  go_wp2_with fail
                  refine (show Calls _ _ _ _ (fun e W' => e = .returned (.tuple #[vM 0 0, .bool false]) ∧ Below wz.heap.size wz W') from by
                    have hof : offO (mergeO xs) (0, 0) = none := no_zero HMF.out.2.1
                    have e := ofO_none hof
                    cases hz : mergeO xs with
                    | none => exact refOf_nil vz 0 0 wz (by have := HZ.out; rw [hz] at this; exact this)
                    | some t =>
                      have h1 := HZ.out
                      have h2 := HMF.out
                      rw [hz] at h1 h2 e
                      have := refOf_flat t vz 0 0 wz h1 (Nat.le_trans (okT_parts h2.2.1).1 (by decide)) (by have h3 : ht t ≤ 30 := h2.2.2.1; omega)
                      rw [e] at this
                      exact this).mono ?_
                  rintro e w6 ⟨rfl, hb⟩
                  replace HZ := Lib.hid (keeps_spots _ _ _ _ _ _ HZ.out hb hb.size)
                  replace HM := Lib.hid (keeps_heads _ _ _ _ _ _ HM.out hb hb.size)
                  replace HME := Lib.hid (HME.out.keep hb hb.size)
                  replace B := B.trans (hb.mono B.size)
                  clear hb
                  go_wp2_with fail
                  obtain ⟨w7, hW, hb⟩ : ∃ W, w6.alloc (.cells #[.int .i64 0, .int .i64 0] 32) = W ∧ Below w6.heap.size w6 W := ⟨_, rfl, below_new _ _⟩
                  rw [hW]
                  replace HZ := Lib.hid (keeps_spots _ _ _ _ _ _ HZ.out hb hb.size)
                  replace HM := Lib.hid (keeps_heads _ _ _ _ _ _ HM.out hb hb.size)
                  replace HME := Lib.hid (HME.out.keep hb hb.size)
                  replace B := B.trans (hb.mono B.size)
                  clear hb hW
                  refine (awake12_any w7).mono ?_
                  rintro e w8 ⟨rfl, hb⟩
                  replace HZ := Lib.hid (keeps_spots _ _ _ _ _ _ HZ.out hb hb.size)
                  replace HM := Lib.hid (keeps_heads _ _ _ _ _ _ HM.out hb hb.size)
                  replace HME := Lib.hid (HME.out.keep hb hb.size)
                  replace B := B.trans (hb.mono B.size)
                  clear hb
                  go_wp2_with fail
                  refine (gMerge_any r2 (hs.drop kk ++ hs.take kk) (xs.drop kk ++ xs.take kk) w8 HM.out HME.out (by simp only [List.length_append, List.length_drop, List.length_take]; omega) (fun x hx => by
                    have hx2 : x ∈ xs := by
                      rcases List.mem_append.1 hx with h | h
                      · exact List.mem_of_mem_drop h
                      · exact List.mem_of_mem_take h
                    exact ⟨(HXS.out x hx2).1, (HXS.out x hx2).2.1⟩) HSW.out.1 HSW.out.2.1).mono ?_
                  rintro e w9 ⟨vn, rfl, hvn, hb⟩
                  rw [HSW.out.2.2] at hvn
                  have HVN := Lib.hid hvn
                  replace HZ := Lib.hid (keeps_spots _ _ _ _ _ _ HZ.out hb hb.size)
                  replace B := B.trans (hb.mono B.size)
                  clear hb hvn
                  go_wp2_with fail
                  refine ((show Calls _ _ _ _ (fun e W' => e = .returned (.bool true) ∧ Below w9.heap.size w9 W') from by have := sameS_any vz vn (spo (mergeO xs)) (spo (mergeO xs)) w9 HZ.out HVN.out (Nat.le_trans (okT_parts HMF.out.2.1).1 (by decide)); rwa [show decide ((spo (mergeO xs)) = (spo (mergeO xs))) = true from decide_eq_true rfl] at this)).mono ?_
                  rintro e wa ⟨rfl, hb⟩
                  replace HZ := Lib.hid (keeps_spots _ _ _ _ _ _ HZ.out hb hb.size)
                  replace B := B.trans (hb.mono B.size)
                  clear hb
                  go_wp2_with fail
                  refine (refLeaves_any vz (spo (mergeO xs)) wa HZ.out (Nat.le_trans (okT_parts HMF.out.2.1).1 (by decide))).mono ?_
                  rintro e wb ⟨vl, rfl, hvl, hb⟩
                  obtain ⟨Al, cl, rfl, -, hcl⟩ := mems_len hvl na (by rw [HNA.out]; exact HMF.out.2.2.2.1)
                  replace B := B.trans (hb.mono B.size)
                  clear hb hvl
                  go_wp2
                  go_ret
                  exact ⟨rfl, B⟩
      · have hd8 : 8 < hs.length := by omega
        go_wp2_with fail
        refine (awake12_any wr).mono ?_
        rintro e W9 ⟨rfl, B9⟩
        go_wp2
        go_ret
        exact ⟨rfl, B.trans (B9.mono B.size)⟩

end Go.Proofs.Ytokhaldnakjiaaa
