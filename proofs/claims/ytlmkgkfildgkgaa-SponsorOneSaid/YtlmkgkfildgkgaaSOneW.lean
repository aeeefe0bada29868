import Derived.Test.YtlmkgkfildgkgaaAwake13
import Derived.Test.YtlmkgkfildgkgaaSpoR
import Derived.Test.YtlmkgkfildgkgaaPhaseA
import Derived.Test.YtlmkgkfildgkgaaPruN
import Derived.Test.YtlmkgkfildgkgaaSpoO
import Derived.Test.YtlmkgkfildgkgaaSmallS
import Derived.Test.YtlmkgkfildgkgaaLens
/- lodgelaw13.SponsorOne answers true, whatever slice of spots comes in, and leaves memory below as it was. No condition. -/
namespace Go.Proofs.Ytlmkgkfildgkgaa
open Go Go.RowKit
set_option linter.unusedVariables false

set_option maxRecDepth 100000 in
set_option maxHeartbeats 16000000 in
theorem sponsorOne_walk (A : Option Addr) (la ca : Nat) (w : World) (h : ∃ xs, Spots w.heap.size w xs [.slice A la ca]) :
    Calls Try.prog 4 #[.slice A la ca] w fun e w' => e = .returned (.bool true) ∧ Below w.heap.size w w' := by
  obtain ⟨xs, hx⟩ := h
  have HX := Lib.hid hx
  obtain ⟨_, _, e, hlc, hcm, _⟩ := spots_at hx
  simp only [Value.slice.injEq] at e
  obtain ⟨rfl, hla, rfl⟩ := e
  have hc1 : ca ≤ 9223372036854775807 := Nat.le_trans hcm (by decide)
  subst hla
  clear hx hcm
  obtain ⟨sb, hb1, hb2⟩ := smallS_any xs
  have HSM := Lib.hid hb2
  clear hb2
  have B : Below w.heap.size w w := Below.refl _ _
  go_enter Try.func4, Try.ntmps4
  go_wp2_with fail
  refine (HSM.out _ w HX.out).mono ?_
  rintro e W1 ⟨rfl, hb⟩
  replace HX := Lib.hid (keeps_spots _ _ _ _ _ _ HX.out hb hb.size)
  replace B := B.trans (hb.mono B.size)
  clear hb
  cases sb with
  | false =>
    clear hb1
    go_wp2_with fail
    refine (awake13_any W1).mono ?_
    rintro e W9 ⟨rfl, B9⟩
    go_wp2
    go_ret
    exact ⟨rfl, B.trans (B9.mono B.size)⟩
  | true =>
    obtain ⟨ot, rfl, hok, hht⟩ := hb1 rfl
    have hls128 := (okT_parts hok).1
    have hn : (spo ot).length ≤ 1000000 := by omega
    have hnd := ((once_iff _).1 (okT_parts hok).2.2).2
    have hms := okT_few hok
    have KO : Hid (∀ a b w, Spots w.heap.size w (spo ot) [.slice A (spo ot).length ca] → Calls Try.prog 14 #[.slice A (spo ot).length ca, vM a b] w fun e W' => e = .returned (.tuple #[vM (ofO ot (a, b)).1.1 (ofO ot (a, b)).1.2, .bool (ofO ot (a, b)).2]) ∧ Below w.heap.size w W') := Lib.hid fun a b w h => by
      cases ot with
      | none => exact refOf_nil _ a b w h
      | some t => exact refOf_flat t _ a b w h hn hht
    have HF := Lib.hid (fun i (hi : i < (lv (spo ot)).length) => one_facts hnd hht (List.getElem_mem hi))
    have HC := Lib.hid (cnt_succ ot)
    have HLE := Lib.hid (fun i => cnt_le hnd i)
    have HALL := Lib.hid (fun i (h : (lv (spo ot)).length ≤ i) => cnt_all hnd h)
    clear hb1 hnd
    go_wp2_with fail
    refine (refLeaves_any _ (spo ot) W1 HX.out hn).mono ?_
    rintro e W2 ⟨vm, rfl, hm, hb⟩
    replace HX := Lib.hid (keeps_spots _ _ _ _ _ _ HX.out hb hb.size)
    replace B := B.trans (hb.mono B.size)
    clear hb
    generalize lv (spo ot) = ms at hm HF HC HALL hms
    obtain ⟨Am, cm, rfl, hlm, hcm, _⟩ := mems_at hm
    have hcm2 : cm ≤ 9223372036854775807 := Nat.le_trans hcm (by decide)
    have HM := Lib.hid hm
    clear hm hcm
    go_wp2_with fail
    go_loopw [4, 5] (fun nv iv wr => ∃ (i : Nat) (wq : World), wq = wr ∧ i ≤ ms.length ∧ iv = .int .i64 (i : Int) ∧ nv = .int .i64 ((cntO ot i : Nat) : Int) ∧ Spots wr.heap.size wr (spo ot) [.slice A (spo ot).length ca] ∧ Mems wr.heap.size wr ms [.slice Am ms.length cm] ∧ Below w.heap.size w wr) (fun _ iv _ => ms.length - (intOf iv).toNat)
    case atStart => exact ⟨0, _, rfl, Nat.zero_le _, rfl, by rw [cnt_zero]; rfl, HX.out, HM.out, B⟩
    case round =>
      clear B HX HM
      obtain ⟨i, wr, rfl, hi, rfl, rfl, hx, hm, B⟩ := hrel
      have HX := Lib.hid hx
      have HM := Lib.hid hm
      clear hx hm
      by_cases hlt : i < ms.length
      · have hd1 : decide (i < ms.length) = true := decide_eq_true hlt
        have hi2 : (i : Int) < (ms.length : Int) := by omega
        have hge : (0 : Int) ≤ (i : Int) := by omega
        obtain ⟨gm, om, rfl⟩ := mems_some HM.out i hlt
        obtain ⟨n, x, hn60, hof, hsl, hbn, hpos, hS⟩ := HF.out i hlt
        have hcs := HC.out i hlt
        have hcl := HLE.out (i + 1)
        generalize hab : ms[i] = q at hcs hof hsl hbn hpos hS
        obtain ⟨a, b⟩ := q
        have HAB := Lib.hid hab
        obtain ⟨-, k0, k1⟩ := mems_cell HM.out i hlt
        rw [hab] at k0 k1
        clear hab
        go_wp2_with fail
        refine (sSpeaks_any _ ot a b wr HX.out hok hht).mono ?_
        rintro e W21 ⟨vs, rfl, hs, hb⟩
        replace HX := Lib.hid (keeps_spots _ _ _ _ _ _ HX.out hb hb.size)
        replace HM := Lib.hid (keeps_mems _ _ _ _ _ _ HM.out hb hb.size)
        replace B := B.trans (hb.mono B.size)
        clear hb
        have HS := Lib.hid hs
        clear hs
        generalize speaksO ot (a, b) = S at HS hsl hpos hS
        obtain ⟨As, cs, rfl, hls, hcs3, _⟩ := mems_at HS.out
        have hcs2 : cs ≤ 9223372036854775807 := Nat.le_trans hcs3 (by decide)
        clear hcs3
        have HSF := Lib.hid hS
        clear hS
        have hSn : S.length ≤ n := by omega
        rw [← hsl] at hcs
        have hwn : wrap64 ((cntO ot i : Int) + (S.length : Int)) = (cntO ot (i + 1) : Int) := by unfold wrap64; omega
        have HHN := Lib.hid hwn
        have HPOS := Lib.hid hpos
        clear hcs hcl hsl hbn hwn hpos
        clear k0 k1
        obtain ⟨-, k0, k1⟩ := mems_cell HM.out i hlt
        rw [HAB.out] at k0 k1
        go_wp2_with fail
        refine (show Calls _ _ _ _ (fun e W' => e = .returned (.tuple #[vM (n : Int) x, .bool true]) ∧ Below W21.heap.size W21 W') from by have := KO.out a b W21 HX.out; rwa [hof] at this).mono ?_
        rintro e W22 ⟨rfl, hb⟩
        replace HX := Lib.hid (keeps_spots _ _ _ _ _ _ HX.out hb hb.size)
        replace HM := Lib.hid (keeps_mems _ _ _ _ _ _ HM.out hb hb.size)
        replace HS := Lib.hid (keeps_mems _ _ _ _ _ _ HS.out hb hb.size)
        replace B := B.trans (hb.mono B.size)
        clear hb
        go_wp2_with fail
        clear hof
        obtain ⟨W23, hW, b7, hb⟩ : ∃ W, W22.alloc (.cells #[.int .i64 (n : Int), .int .i64 x] 24) = W ∧ Box W W22.heap.size [.int .i64 (n : Int), .int .i64 x] ∧ Below W22.heap.size W22 W := ⟨_, rfl, Box.new W22 _ _, below_new _ _⟩
        rw [hW]
        obtain ⟨g7, hg⟩ : ∃ g, W22.heap.size = g := ⟨_, rfl⟩
        rw [hg] at b7
        try rw [hg]
        replace HX := Lib.hid (keeps_spots _ _ _ _ _ _ HX.out hb hb.size)
        replace HM := Lib.hid (keeps_mems _ _ _ _ _ _ HM.out hb hb.size)
        replace HS := Lib.hid (keeps_mems _ _ _ _ _ _ HS.out hb hb.size)
        replace B := B.trans (hb.mono B.size)
        clear hb
        clear hW hg
        clear k0 k1
        obtain ⟨-, k0, k1⟩ := mems_cell HM.out i hlt
        rw [HAB.out] at k0 k1
        by_cases h1 : 1 < ms.length
        · have hd2 : decide (1 < ms.length) = true := decide_eq_true h1
          have hd2b : decide ((1 : Int) < (ms.length : Int)) = true := decide_eq_true (by omega)
          have hp0 := HPOS.out h1
          obtain ⟨gs, os, rfl⟩ := mems_some HS.out 0 hp0
          obtain ⟨-, s0, s1⟩ := mems_cell HS.out 0 hp0
          obtain ⟨f1, f2, f3⟩ := HSF.out 0 hp0
          rw [f1] at s0
          rw [f3 rfl] at s1
          have hd3 : decide (S.length < 1) = false := decide_eq_false (by omega)
          have hd3b : decide ((S.length : Int) < 1) = false := decide_eq_false (by omega)
          simp at s0 s1
          have qb70 := b7.c 0 _ rfl
          have qb71 := b7.c 1 _ rfl
          go_quiet (fail)
          have hb : Below W23.heap.size W23 (W23.drewN nq) := ⟨rfl, rfl, rfl, Nat.le_refl _, fun _ _ => rfl⟩
          obtain ⟨W24, hW⟩ : ∃ W, W23.drewN nq = W := ⟨_, rfl⟩
          rw [hW] at hb
          rw [hW]
          replace HX := Lib.hid (keeps_spots _ _ _ _ _ _ HX.out hb hb.size)
          replace HM := Lib.hid (keeps_mems _ _ _ _ _ _ HM.out hb hb.size)
          replace HS := Lib.hid (keeps_mems _ _ _ _ _ _ HS.out hb hb.size)
          replace b7 := b7.next hb
          replace B := B.trans (hb.mono B.size)
          clear hb
          clear hW
          clear s0 s1 f1 f2 f3
          clear qb70 qb71
          go_wp2_with fail
          go_loopw [9] (fun kv wz => ∃ (k : Nat) (wq : World), wq = wz ∧ k ≤ S.length ∧ kv = .int .i64 (k : Int) ∧ Spots wz.heap.size wz (spo ot) [.slice A (spo ot).length ca] ∧ Mems wz.heap.size wz ms [.slice (some ⟨gm, om, none⟩) ms.length cm] ∧ Mems wz.heap.size wz S [.slice (some ⟨gs, os, none⟩) S.length cs] ∧ Box wz g7 [.int .i64 (n : Int), .int .i64 x] ∧ Below w.heap.size w wz) (fun kv _ => S.length - (intOf kv).toNat)
          case atStart => exact ⟨0, _, rfl, Nat.zero_le _, rfl, HX.out, HM.out, HS.out, b7, B⟩
          case round =>
            clear B HX HM HS b7 k0 k1
            obtain ⟨k, wz, rfl, hk, rfl, hx, hm, hs, b7, B⟩ := hrel
            have HX := Lib.hid hx
            have HM := Lib.hid hm
            have HS := Lib.hid hs
            clear hx hm hs
            obtain ⟨-, k0, k1⟩ := mems_cell HM.out i hlt
            rw [HAB.out] at k0 k1
            by_cases hkl : k < S.length
            · have hd4 : decide (k < S.length) = true := decide_eq_true hkl
              have hk2 : (k : Int) < (S.length : Int) := by omega
              have hkg : (0 : Int) ≤ (k : Int) := by omega
              obtain ⟨-, s0, s1⟩ := mems_cell HS.out k hkl
              obtain ⟨f1, f2, -⟩ := HSF.out k hkl
              obtain ⟨⟨y, z⟩, hyz⟩ : ∃ q, S[k] = q := ⟨_, rfl⟩
              simp only [hyz] at s0 s1 f1 f2
              have HYZ := Lib.hid hyz
              clear hyz
              have HF1 := Lib.hid f1
              have HF2 := Lib.hid f2
              clear f1 f2
              go_wp2_with fail
              refine (show Calls _ _ _ _ (fun e W' => e = .returned (.tuple #[vM a b, .bool true]) ∧ Below wz.heap.size wz W') from by have := sOf_any _ ot y z wz HX.out hok hht; rwa [HF2.out] at this).mono ?_
              rintro e W41 ⟨rfl, hb⟩
              replace HX := Lib.hid (keeps_spots _ _ _ _ _ _ HX.out hb hb.size)
              replace HM := Lib.hid (keeps_mems _ _ _ _ _ _ HM.out hb hb.size)
              replace HS := Lib.hid (keeps_mems _ _ _ _ _ _ HS.out hb hb.size)
              replace b7 := b7.next hb
              replace B := B.trans (hb.mono B.size)
              clear hb
              go_wp2_with fail
              obtain ⟨W42, hW, b10, hb⟩ : ∃ W, W41.alloc (.cells #[.int .i64 a, .int .i64 b] 26) = W ∧ Box W W41.heap.size [.int .i64 a, .int .i64 b] ∧ Below W41.heap.size W41 W := ⟨_, rfl, Box.new W41 _ _, below_new _ _⟩
              rw [hW]
              obtain ⟨g10, hg⟩ : ∃ g, W41.heap.size = g := ⟨_, rfl⟩
              rw [hg] at b10
              try rw [hg]
              replace HX := Lib.hid (keeps_spots _ _ _ _ _ _ HX.out hb hb.size)
              replace HM := Lib.hid (keeps_mems _ _ _ _ _ _ HM.out hb hb.size)
              replace HS := Lib.hid (keeps_mems _ _ _ _ _ _ HS.out hb hb.size)
              replace b7 := b7.next hb
              replace B := B.trans (hb.mono B.size)
              clear hb
              clear hW hg
              clear k0 k1
              obtain ⟨-, k0, k1⟩ := mems_cell HM.out i hlt
              rw [HAB.out] at k0 k1
              clear s0 s1
              obtain ⟨-, s0, s1⟩ := mems_cell HS.out k hkl
              simp only [HYZ.out] at s0 s1
              have hwy : wrap64 ((n : Int) - (k : Int)) = (n : Int) - (k : Int) := by unfold wrap64; omega
              have hyq : (y != (n : Int) - (k : Int)) = false := by rw [HF1.out]; simp
              have qb70 := b7.c 0 _ rfl
              have qb71 := b7.c 1 _ rfl
              have qb100 := b10.c 0 _ rfl
              have qb101 := b10.c 1 _ rfl
              go_quiet (fail)
              have hb : Below W42.heap.size W42 (W42.drewN nq) := ⟨rfl, rfl, rfl, Nat.le_refl _, fun _ _ => rfl⟩
              obtain ⟨W43, hW⟩ : ∃ W, W42.drewN nq = W := ⟨_, rfl⟩
              rw [hW] at hb
              rw [hW]
              replace HX := Lib.hid (keeps_spots _ _ _ _ _ _ HX.out hb hb.size)
              replace HM := Lib.hid (keeps_mems _ _ _ _ _ _ HM.out hb hb.size)
              replace HS := Lib.hid (keeps_mems _ _ _ _ _ _ HS.out hb hb.size)
              replace b7 := b7.next hb
              replace b10 := b10.next hb
              replace B := B.trans (hb.mono B.size)
              clear hb
              clear hW
              clear qb70 qb71 qb100 qb101
              clear hwy s0 s1
              go_wp2
              clear hyq
              go_roundw
              case rel => exact ⟨k + 1, _, rfl, by omega, by go_num, HX.out, HM.out, HS.out, b7, B⟩
              case measure => simp [intOf]; omega
            · have hd4 : decide (k < S.length) = false := decide_eq_false hkl
              have hwn := HHN.out
              go_wp2
              go_roundw
              case rel => exact ⟨i + 1, _, rfl, by omega, by go_num, by rw [← hwn], HX.out, HM.out, B⟩
              case measure => simp [intOf]; omega
        · have hd2 : decide (1 < ms.length) = false := decide_eq_false h1
          have hd2b : decide ((1 : Int) < (ms.length : Int)) = false := decide_eq_false (by omega)
          go_quiet (fail)
          have hb : Below W23.heap.size W23 (W23.drewN nq) := ⟨rfl, rfl, rfl, Nat.le_refl _, fun _ _ => rfl⟩
          obtain ⟨W24, hW⟩ : ∃ W, W23.drewN nq = W := ⟨_, rfl⟩
          rw [hW] at hb
          rw [hW]
          replace HX := Lib.hid (keeps_spots _ _ _ _ _ _ HX.out hb hb.size)
          replace HM := Lib.hid (keeps_mems _ _ _ _ _ _ HM.out hb hb.size)
          replace HS := Lib.hid (keeps_mems _ _ _ _ _ _ HS.out hb hb.size)
          replace b7 := b7.next hb
          replace B := B.trans (hb.mono B.size)
          clear hb
          clear hW
          go_wp2_with fail
          go_loopw [9] (fun kv wz => ∃ (k : Nat) (wq : World), wq = wz ∧ k ≤ S.length ∧ kv = .int .i64 (k : Int) ∧ Spots wz.heap.size wz (spo ot) [.slice A (spo ot).length ca] ∧ Mems wz.heap.size wz ms [.slice (some ⟨gm, om, none⟩) ms.length cm] ∧ Mems wz.heap.size wz S [.slice As S.length cs] ∧ Box wz g7 [.int .i64 (n : Int), .int .i64 x] ∧ Below w.heap.size w wz) (fun kv _ => S.length - (intOf kv).toNat)
          case atStart => exact ⟨0, _, rfl, Nat.zero_le _, rfl, HX.out, HM.out, HS.out, b7, B⟩
          case round =>
            clear B HX HM HS b7 k0 k1
            obtain ⟨k, wz, rfl, hk, rfl, hx, hm, hs, b7, B⟩ := hrel
            have HX := Lib.hid hx
            have HM := Lib.hid hm
            have HS := Lib.hid hs
            clear hx hm hs
            obtain ⟨-, k0, k1⟩ := mems_cell HM.out i hlt
            rw [HAB.out] at k0 k1
            by_cases hkl : k < S.length
            · have hd4 : decide (k < S.length) = true := decide_eq_true hkl
              have hk2 : (k : Int) < (S.length : Int) := by omega
              have hkg : (0 : Int) ≤ (k : Int) := by omega
              obtain ⟨gs, os, rfl⟩ := mems_some HS.out k hkl
              obtain ⟨-, s0, s1⟩ := mems_cell HS.out k hkl
              obtain ⟨f1, f2, -⟩ := HSF.out k hkl
              obtain ⟨⟨y, z⟩, hyz⟩ : ∃ q, S[k] = q := ⟨_, rfl⟩
              simp only [hyz] at s0 s1 f1 f2
              have HYZ := Lib.hid hyz
              clear hyz
              have HF1 := Lib.hid f1
              have HF2 := Lib.hid f2
              clear f1 f2
              go_wp2_with fail
              refine (show Calls _ _ _ _ (fun e W' => e = .returned (.tuple #[vM a b, .bool true]) ∧ Below wz.heap.size wz W') from by have := sOf_any _ ot y z wz HX.out hok hht; rwa [HF2.out] at this).mono ?_
              rintro e W41 ⟨rfl, hb⟩
              replace HX := Lib.hid (keeps_spots _ _ _ _ _ _ HX.out hb hb.size)
              replace HM := Lib.hid (keeps_mems _ _ _ _ _ _ HM.out hb hb.size)
              replace HS := Lib.hid (keeps_mems _ _ _ _ _ _ HS.out hb hb.size)
              replace b7 := b7.next hb
              replace B := B.trans (hb.mono B.size)
              clear hb
              go_wp2_with fail
              obtain ⟨W42, hW, b10, hb⟩ : ∃ W, W41.alloc (.cells #[.int .i64 a, .int .i64 b] 26) = W ∧ Box W W41.heap.size [.int .i64 a, .int .i64 b] ∧ Below W41.heap.size W41 W := ⟨_, rfl, Box.new W41 _ _, below_new _ _⟩
              rw [hW]
              obtain ⟨g10, hg⟩ : ∃ g, W41.heap.size = g := ⟨_, rfl⟩
              rw [hg] at b10
              try rw [hg]
              replace HX := Lib.hid (keeps_spots _ _ _ _ _ _ HX.out hb hb.size)
              replace HM := Lib.hid (keeps_mems _ _ _ _ _ _ HM.out hb hb.size)
              replace HS := Lib.hid (keeps_mems _ _ _ _ _ _ HS.out hb hb.size)
              replace b7 := b7.next hb
              replace B := B.trans (hb.mono B.size)
              clear hb
              clear hW hg
              clear k0 k1
              obtain ⟨-, k0, k1⟩ := mems_cell HM.out i hlt
              rw [HAB.out] at k0 k1
              clear s0 s1
              obtain ⟨-, s0, s1⟩ := mems_cell HS.out k hkl
              simp only [HYZ.out] at s0 s1
              have hwy : wrap64 ((n : Int) - (k : Int)) = (n : Int) - (k : Int) := by unfold wrap64; omega
              have hyq : (y != (n : Int) - (k : Int)) = false := by rw [HF1.out]; simp
              have qb70 := b7.c 0 _ rfl
              have qb71 := b7.c 1 _ rfl
              have qb100 := b10.c 0 _ rfl
              have qb101 := b10.c 1 _ rfl
              go_quiet (fail)
              have hb : Below W42.heap.size W42 (W42.drewN nq) := ⟨rfl, rfl, rfl, Nat.le_refl _, fun _ _ => rfl⟩
              obtain ⟨W43, hW⟩ : ∃ W, W42.drewN nq = W := ⟨_, rfl⟩
              rw [hW] at hb
              rw [hW]
              replace HX := Lib.hid (keeps_spots _ _ _ _ _ _ HX.out hb hb.size)
              replace HM := Lib.hid (keeps_mems _ _ _ _ _ _ HM.out hb hb.size)
              replace HS := Lib.hid (keeps_mems _ _ _ _ _ _ HS.out hb hb.size)
              replace b7 := b7.next hb
              replace b10 := b10.next hb
              replace B := B.trans (hb.mono B.size)
              clear hb
              clear hW
              clear qb70 qb71 qb100 qb101
              clear hwy s0 s1
              go_wp2
              clear hyq
              go_roundw
              case rel => exact ⟨k + 1, _, rfl, by omega, by go_num, HX.out, HM.out, HS.out, b7, B⟩
              case measure => simp [intOf]; omega
            · have hd4 : decide (k < S.length) = false := decide_eq_false hkl
              have hwn := HHN.out
              go_wp2
              go_roundw
              case rel => exact ⟨i + 1, _, rfl, by omega, by go_num, by rw [← hwn], HX.out, HM.out, B⟩
              case measure => simp [intOf]; omega
      · have hd1 : decide (i < ms.length) = false := decide_eq_false hlt
        have hca : cntO ot i = (spo ot).length - 1 := HALL.out i (by omega)
        rw [hca]
        go_wp2_with fail
        refine (awake13_any wr).mono ?_
        rintro e W9 ⟨rfl, B9⟩
        go_wp2
        · have hbt : ((((spo ot).length - 1 : Nat) : Int) == ((spo ot).length : Int) - 1) = true := by rw [beq_iff_eq]; omega
          rw [hbt]
          go_ret
          exact ⟨rfl, B.trans (B9.mono B.size)⟩
        · have hbt : ((((spo ot).length - 1 : Nat) : Int) == 0) = true := by rw [beq_iff_eq]; omega
          rw [hbt]
          go_ret
          exact ⟨rfl, B.trans (B9.mono B.size)⟩

end Go.Proofs.Ytlmkgkfildgkgaa
