/- lodgelaw11.PrunePromotes answers true, whatever two slices of spots come in, and leaves memory below as it was. Condition: they are of at most 400,000 spots each. -/
import Derived.Test.YtghnnmgohkfljaaAwake11
import Derived.Test.YtghnnmgohkfljaaSmallL
import Derived.Test.YtghnnmgohkfljaaPhaseR
import Derived.Test.YtghnnmgohkfljaaLens
namespace Go.Proofs.Ytghnnmgohkfljaa
open Go Go.RowKit
set_option linter.unusedVariables false

theorem once_append {a b : List (Int × Int)} (h : once (a ++ b) = true) : ∀ m ∈ a, m ∉ b := by
  rw [once_iff, List.nodup_append] at h
  intro m hm hb
  exact h.2.2.2 m hm m hb rfl
theorem prom_a {x y : Option Tr} (hx : okT (spo x) = true) (h : okT (spo (joinO x y)) = true) : keepO (lvO x) (joinO x y) = x := by
  have h1 := (okT_parts h).2.2
  have h2 : once (lvO x ++ lvO y) = true := by rw [← lvO_join]; exact h1
  rw [keep_join, keep_all (okT_parts hx).2.1 (fun m hm => hm), keep_none (fun m hm hx => once_append h2 m hx hm), joinO_none]
theorem prom_b {x y : Option Tr} (hy : okT (spo y) = true) (h : okT (spo (joinO x y)) = true) : keepO (lvO y) (joinO x y) = y := by
  have h1 := (okT_parts h).2.2
  have h2 : once (lvO x ++ lvO y) = true := by rw [← lvO_join]; exact h1
  rw [keep_join, keep_all (okT_parts hy).2.1 (fun m hm => hm), keep_none (fun m hm => once_append h2 m hm)]
  rfl
set_option maxRecDepth 100000 in
set_option maxHeartbeats 8000000 in
theorem prunePromotes_walk (A : Option Addr) (la ca : Nat) (A2 : Option Addr) (lb cb : Nat) (w : World) (h : ∃ xs, Spots w.heap.size w xs [.slice A la ca]) (h' : ∃ ys, Spots w.heap.size w ys [.slice A2 lb cb]) (hll : la + lb ≤ 1100000) :
    Calls Try.prog 6 #[.slice A la ca, .slice A2 lb cb] w fun e w' => e = .returned (.bool true) ∧ Below w.heap.size w w' := by
  obtain ⟨xs, hx⟩ := h
  have HX := Lib.hid hx
  obtain ⟨_, _, e, hlcHX, hcmHX, _⟩ := spots_at hx
  simp only [Value.slice.injEq] at e
  obtain ⟨rfl, hlHX, rfl⟩ := e
  have hcHX : ca ≤ 9223372036854775807 := Nat.le_trans hcmHX (by decide)
  subst hlHX
  clear hx hcmHX
  obtain ⟨ys, hy⟩ := h'
  have HY := Lib.hid hy
  obtain ⟨_, _, e, hlcHY, hcmHY, _⟩ := spots_at hy
  simp only [Value.slice.injEq] at e
  obtain ⟨rfl, hlHY, rfl⟩ := e
  have hcHY : cb ≤ 9223372036854775807 := Nat.le_trans hcmHY (by decide)
  subst hlHY
  clear hy hcmHY
  obtain ⟨b, hb1, -, hb2⟩ := smallL_any xs
  have HSM := Lib.hid hb2
  obtain ⟨b', hb1', -, hb2'⟩ := smallL_any ys
  have HSN := Lib.hid hb2'
  obtain ⟨b'', hb1'', -, hb2''⟩ := smallL_any (joinS xs ys)
  have HSJ := Lib.hid hb2''
  clear hb2 hb2' hb2''
  have B : Below w.heap.size w w := Below.refl _ _
  go_enter Try.func6, Try.ntmps6
  go_wp2_with fail
  refine (refJoinS_any _ _ xs ys w HX.out HY.out hll).mono ?_
  rintro e W1 ⟨vl, rfl, hl, hb⟩
  replace HX := Lib.hid (keeps_spots _ _ _ _ _ _ HX.out hb hb.size)
  replace HY := Lib.hid (keeps_spots _ _ _ _ _ _ HY.out hb hb.size)
  replace B := B.trans (hb.mono B.size)
  clear hb
  have HL := Lib.hid hl
  clear hl
  go_wp2_with fail
  clear hll
  refine (HSM.out _ W1 HX.out).mono ?_
  rintro e W2 ⟨rfl, hb⟩
  replace HX := Lib.hid (keeps_spots _ _ _ _ _ _ HX.out hb hb.size)
  replace HY := Lib.hid (keeps_spots _ _ _ _ _ _ HY.out hb hb.size)
  replace HL := Lib.hid (keeps_spots _ _ _ _ _ _ HL.out hb hb.size)
  replace B := B.trans (hb.mono B.size)
  clear hb
  cases b with
  | false =>
    clear hb1 hb1' hb1''
    go_wp2_with fail
    refine (awake11_any W2).mono ?_
    rintro e W9 ⟨rfl, B9⟩
    go_wp2
    go_ret
    exact ⟨rfl, B.trans (B9.mono B.size)⟩
  | true =>
    go_wp2_with fail
    refine (HSN.out _ W2 HY.out).mono ?_
    rintro e W3 ⟨rfl, hb⟩
    replace HX := Lib.hid (keeps_spots _ _ _ _ _ _ HX.out hb hb.size)
    replace HY := Lib.hid (keeps_spots _ _ _ _ _ _ HY.out hb hb.size)
    replace HL := Lib.hid (keeps_spots _ _ _ _ _ _ HL.out hb hb.size)
    replace B := B.trans (hb.mono B.size)
    clear hb
    cases b' with
    | false =>
      clear hb1 hb1' hb1''
      go_wp2_with fail
      refine (awake11_any W3).mono ?_
      rintro e W9 ⟨rfl, B9⟩
      go_wp2
      go_ret
      exact ⟨rfl, B.trans (B9.mono B.size)⟩
    | true =>
      go_wp2_with fail
      refine (HSJ.out _ W3 HL.out).mono ?_
      rintro e W4 ⟨rfl, hb⟩
      replace HX := Lib.hid (keeps_spots _ _ _ _ _ _ HX.out hb hb.size)
      replace HY := Lib.hid (keeps_spots _ _ _ _ _ _ HY.out hb hb.size)
      replace HL := Lib.hid (keeps_spots _ _ _ _ _ _ HL.out hb hb.size)
      replace B := B.trans (hb.mono B.size)
      clear hb
      cases b'' with
      | false =>
        clear hb1 hb1' hb1''
        go_wp2_with fail
        refine (awake11_any W4).mono ?_
        rintro e W9 ⟨rfl, B9⟩
        go_wp2
        go_ret
        exact ⟨rfl, B.trans (B9.mono B.size)⟩
      | true =>
        obtain ⟨x, rfl, hokx⟩ := hb1 (by trivial)
        obtain ⟨y, rfl, hoky⟩ := hb1' (by trivial)
        obtain ⟨z, hz, hokz⟩ := hb1'' (by trivial)
        rw [joinS_spo] at hz
        rw [← hz] at hokz
        clear hb1 hb1' hb1'' hz
        have HPA := Lib.hid (prom_a hokx hokz)
        have HPB := Lib.hid (prom_b hoky hokz)
        replace HL : Hid (Spots W4.heap.size W4 (spo (joinO x y)) [vl]) := Lib.hid (by rw [← joinS_spo]; exact HL.out)
        have hnx : (spo x).length ≤ 400000 := by have := (okT_parts hokx).1; omega
        have hny : (spo y).length ≤ 400000 := by have := (okT_parts hoky).1; omega
        have hlx : (lvO x).length ≤ 1000 := Nat.le_trans (okT_few hokx) (by decide)
        have hly : (lvO y).length ≤ 1000 := Nat.le_trans (okT_few hoky) (by decide)
        go_wp2_with fail
        refine (awake11_any W4).mono ?_
        rintro e W5 ⟨rfl, hb⟩
        replace HX := Lib.hid (keeps_spots _ _ _ _ _ _ HX.out hb hb.size)
        replace HY := Lib.hid (keeps_spots _ _ _ _ _ _ HY.out hb hb.size)
        replace HL := Lib.hid (keeps_spots _ _ _ _ _ _ HL.out hb hb.size)
        replace B := B.trans (hb.mono B.size)
        clear hb
        go_wp2_with fail
        refine (refLeaves_any _ (spo x) W5 HX.out (by omega)).mono ?_
        rintro e W6 ⟨vm1, rfl, hm1, hb⟩
        replace HX := Lib.hid (keeps_spots _ _ _ _ _ _ HX.out hb hb.size)
        replace HY := Lib.hid (keeps_spots _ _ _ _ _ _ HY.out hb hb.size)
        replace HL := Lib.hid (keeps_spots _ _ _ _ _ _ HL.out hb hb.size)
        replace B := B.trans (hb.mono B.size)
        clear hb
        have HM1 := Lib.hid hm1
        clear hm1
        go_wp2_with fail
        refine (pOnly_any vl _ (joinO x y) (lvO x) W6 HL.out HM1.out hokz hlx).mono ?_
        rintro e W7 ⟨vo1, rfl, ho1, hb⟩
        replace HX := Lib.hid (keeps_spots _ _ _ _ _ _ HX.out hb hb.size)
        replace HY := Lib.hid (keeps_spots _ _ _ _ _ _ HY.out hb hb.size)
        replace HL := Lib.hid (keeps_spots _ _ _ _ _ _ HL.out hb hb.size)
        replace HM1 := Lib.hid (keeps_mems _ _ _ _ _ _ HM1.out hb hb.size)
        replace B := B.trans (hb.mono B.size)
        clear hb
        rw [HPA.out] at ho1
        have HO1 := Lib.hid ho1
        clear ho1
        go_wp2_with fail
        refine ((show Calls _ _ _ _ (fun e W' => e = .returned (.bool true) ∧ Below W7.heap.size W7 W') from by have := sameS_any _ _ (spo x) (spo x) W7 HO1.out HX.out (by omega); rwa [show decide ((spo x) = (spo x)) = true from decide_eq_true rfl] at this)).mono ?_
        rintro e W8 ⟨rfl, hb⟩
        replace HX := Lib.hid (keeps_spots _ _ _ _ _ _ HX.out hb hb.size)
        replace HY := Lib.hid (keeps_spots _ _ _ _ _ _ HY.out hb hb.size)
        replace HL := Lib.hid (keeps_spots _ _ _ _ _ _ HL.out hb hb.size)
        replace HM1 := Lib.hid (keeps_mems _ _ _ _ _ _ HM1.out hb hb.size)
        replace HO1 := Lib.hid (keeps_spots _ _ _ _ _ _ HO1.out hb hb.size)
        replace B := B.trans (hb.mono B.size)
        clear hb
        go_wp2_with fail
        refine (refLeaves_any _ (spo y) W8 HY.out (by omega)).mono ?_
        rintro e W9 ⟨vm2, rfl, hm2, hb⟩
        replace HX := Lib.hid (keeps_spots _ _ _ _ _ _ HX.out hb hb.size)
        replace HY := Lib.hid (keeps_spots _ _ _ _ _ _ HY.out hb hb.size)
        replace HL := Lib.hid (keeps_spots _ _ _ _ _ _ HL.out hb hb.size)
        replace HM1 := Lib.hid (keeps_mems _ _ _ _ _ _ HM1.out hb hb.size)
        replace HO1 := Lib.hid (keeps_spots _ _ _ _ _ _ HO1.out hb hb.size)
        replace B := B.trans (hb.mono B.size)
        clear hb
        have HM2 := Lib.hid hm2
        clear hm2
        go_wp2_with fail
        refine (pOnly_any vl _ (joinO x y) (lvO y) W9 HL.out HM2.out hokz hly).mono ?_
        rintro e W10 ⟨vo2, rfl, ho2, hb⟩
        replace HX := Lib.hid (keeps_spots _ _ _ _ _ _ HX.out hb hb.size)
        replace HY := Lib.hid (keeps_spots _ _ _ _ _ _ HY.out hb hb.size)
        replace HL := Lib.hid (keeps_spots _ _ _ _ _ _ HL.out hb hb.size)
        replace HM1 := Lib.hid (keeps_mems _ _ _ _ _ _ HM1.out hb hb.size)
        replace HO1 := Lib.hid (keeps_spots _ _ _ _ _ _ HO1.out hb hb.size)
        replace HM2 := Lib.hid (keeps_mems _ _ _ _ _ _ HM2.out hb hb.size)
        replace B := B.trans (hb.mono B.size)
        clear hb
        rw [HPB.out] at ho2
        have HO2 := Lib.hid ho2
        clear ho2
        go_wp2_with fail
        refine ((show Calls _ _ _ _ (fun e W' => e = .returned (.bool true) ∧ Below W10.heap.size W10 W') from by have := sameS_any _ _ (spo y) (spo y) W10 HO2.out HY.out (by omega); rwa [show decide ((spo y) = (spo y)) = true from decide_eq_true rfl] at this)).mono ?_
        rintro e W11 ⟨rfl, hb⟩
        replace HX := Lib.hid (keeps_spots _ _ _ _ _ _ HX.out hb hb.size)
        replace HY := Lib.hid (keeps_spots _ _ _ _ _ _ HY.out hb hb.size)
        replace HL := Lib.hid (keeps_spots _ _ _ _ _ _ HL.out hb hb.size)
        replace HM1 := Lib.hid (keeps_mems _ _ _ _ _ _ HM1.out hb hb.size)
        replace HO1 := Lib.hid (keeps_spots _ _ _ _ _ _ HO1.out hb hb.size)
        replace HM2 := Lib.hid (keeps_mems _ _ _ _ _ _ HM2.out hb hb.size)
        replace HO2 := Lib.hid (keeps_spots _ _ _ _ _ _ HO2.out hb hb.size)
        replace B := B.trans (hb.mono B.size)
        clear hb
        go_wp2
        go_ret
        exact ⟨rfl, B⟩

end Go.Proofs.Ytghnnmgohkfljaa
