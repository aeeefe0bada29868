import Derived.Test.YtlmkgkfildgkgaaLabW
import Derived.Test.YtlmkgkfildgkgaaTreeL
import Derived.Test.YtlmkgkfildgkgaaSpoN
import Derived.Test.YtlmkgkfildgkgaaLens
/- The document's Of and Speaks of layer 13. Condition: the slice reads as a tree's spots, or nothing's, of at most a million, at most 60 high. -/
namespace Go.Proofs.Ytlmkgkfildgkgaa
open Go Go.RowKit
set_option linter.unusedVariables false

set_option maxRecDepth 100000 in
set_option maxHeartbeats 8000000 in
theorem refWho_any (v : Value) (ot : Option Tr) (L I : Int) (w : World) (h : Spots w.heap.size w (spo ot) [v]) (hn : (spo ot).length ≤ 1000000) :
    Calls Try.prog 9 #[v, vM L I] w fun e W' => e = .returned (.tuple #[vM (whoO ot L I).1.1 (whoO ot L I).1.2, .bool (whoO ot L I).2]) ∧ Below w.heap.size w W' := by
  have HX := Lib.hid h
  have HW := Lib.hid (who_part ot L I)
  have hpl : (partO ot L I).length ≤ 1000000 := by
    rcases at_part ot L I with ⟨_, e⟩ | ⟨o, u, _, e, hle, _⟩
    · rw [e]; exact Nat.zero_le _
    · rw [e]; omega
  clear h
  go_enter Try.func9, Try.ntmps9
  go_wp2_with fail
  obtain ⟨W0, hW0, b0, b1, B⟩ := new2 w [.int .i64 L, .int .i64 I] [.int .i64 0, .int .i64 0] 24 26
  rw [hW0]
  clear hW0
  have q0 := b0.c 0 _ rfl
  have q1 := b0.c 1 _ rfl
  replace HX := Lib.hid (keeps_spots _ _ _ _ _ _ HX.out B B.size)
  go_wp2_with fail
  refine (refPart_any _ ot L I W0 HX.out hn).mono ?_
  rintro e W1 ⟨vp, rfl, hp, hb⟩
  replace b1 := b1.next hb
  replace B := B.trans (hb.mono B.size)
  clear hb q0 q1 b0
  have HP := Lib.hid hp
  clear hp
  go_wp2_with fail
  refine (refLeaves_any vp (partO ot L I) W1 HP.out hpl).mono ?_
  rintro e W2 ⟨vm, rfl, hm, hb⟩
  replace b1 := b1.next hb
  replace B := B.trans (hb.mono B.size)
  clear hb HP
  have g0 := b1.f 0 (by simp)
  have g1 := b1.f 1 (by simp)
  have HB : Hid (Below w.heap.size w ((W2.setCell ⟨w.heap.size + 1, 0, none⟩ (.int .i64 (whoO ot L I).1.1)).setCell ⟨w.heap.size + 1, 1, none⟩ (.int .i64 (whoO ot L I).1.2))) := Lib.hid ((B.setCell (p := ⟨w.heap.size + 1, 0, none⟩) (Nat.le_succ _) _).setCell (p := ⟨w.heap.size + 1, 1, none⟩) (Nat.le_succ _) _)
  have HS := Lib.hid (b1.two (.int .i64 (whoO ot L I).1.1) (.int .i64 (whoO ot L I).1.2))
  rcases HW.out with ⟨e1, e2⟩ | ⟨u, e1, e2⟩
  · rw [e1] at hm
    rw [e2] at HB HS
    have HE := Lib.hid e2
    clear e2
    obtain ⟨Am, cm, rfl, _, _⟩ := mems_len hm 0 rfl
    have s0 := HS.out.c 0 _ rfl
    have s1 := HS.out.c 1 _ rfl
    clear e1 hm
    have t0 := b1.c 0 _ rfl
    have t1 := b1.c 1 _ rfl
    go_wp2
    refine bodyPost_ret (v := .tuple #[.agg #[.int .i64 0, .int .i64 0], .bool false]) (by simp [results, Try.results9, go_sem, s0, s1]) rfl ?_
    rw [HE.out]
    exact ⟨rfl, HB.out⟩
  · obtain ⟨ys, ey⟩ := last_lv u
    obtain ⟨⟨x, y⟩, hxy⟩ : ∃ q, lastM u = q := ⟨_, rfl⟩
    rw [e1, ey, hxy] at hm
    rw [hxy] at e2
    rw [e2] at HB HS
    have HE := Lib.hid e2
    clear e2
    have s0 := HS.out.c 0 _ rfl
    have s1 := HS.out.c 1 _ rfl
    obtain ⟨Am, cm, rfl, hl, hcm, hp⟩ := mems_at hm
    obtain ⟨gm, om, rfl, hgm, k0, k1⟩ := hp ys.length (by simp)
    simp only [List.getElem_concat_length] at k0 k1
    have hle : (ys ++ [(x, y)]).length = ys.length + 1 := by simp
    rw [hle] at hl ⊢
    have hyl : ys.length ≤ 1000000 := by
      have h1 := lv_length_le (flat u)
      rw [ey] at h1
      rw [e1] at hpl
      simp at h1
      omega
    have hwr : wrap64 (ys.length : Int) = (ys.length : Int) := by unfold wrap64; omega
    clear e1 hm ey hp hle
    have t0 := b1.c 0 _ rfl
    have t1 := b1.c 1 _ rfl
    go_wp2
    refine bodyPost_ret (v := .tuple #[.agg #[.int .i64 x, .int .i64 y], .bool true]) (by simp [results, Try.results9, go_sem, s0, s1]) rfl ?_
    rw [HE.out]
    exact ⟨rfl, HB.out⟩
theorem wayO_le (ot : Option Tr) (m : Int × Int) (hh : htO ot ≤ 60) : (wayO ot m).length ≤ 61 := by
  unfold wayO
  cases hof : offO ot m with
  | none => exact Nat.zero_le _
  | some p =>
    cases ot with
    | none => cases hof
    | some t =>
      have := off_high hof
      have hh2 : ht t ≤ 60 := hh
      simp only [ups_length]
      omega
theorem filterL_take {f : Int × Int → Bool} (xs : List (Int × Int)) (k : Nat) (h : k < xs.length) : (xs.take (k + 1)).filter f = (xs.take k).filter f ++ if f xs[k] then [xs[k]] else [] := by
  rw [List.take_succ_eq_append_getElem h, List.filter_append]
  congr 1
  simp [List.filter_cons]
theorem filterL_len (f : Int × Int → Bool) (xs : List (Int × Int)) (k : Nat) : ((xs.take k).filter f).length ≤ xs.length :=
  Nat.le_trans (List.length_filter_le _ _) (by simp; omega)
set_option maxRecDepth 100000 in
set_option maxHeartbeats 8000000 in
theorem refSpeaks_any (v : Value) (ot : Option Tr) (m1 m2 : Int) (w : World) (h : Spots w.heap.size w (spo ot) [v]) (hn : (spo ot).length ≤ 1000000) (hh : htO ot ≤ 60) :
    Calls Try.prog 12 #[v, vM m1 m2] w fun e W' => ∃ v', e = .returned v' ∧ Mems W'.heap.size W' (speaksO ot (m1, m2)) [v'] ∧ Below w.heap.size w W' := by
  have HX := Lib.hid h
  have HWL := Lib.hid (wayO_le ot (m1, m2) hh)
  have HSP : Hid (speaksO ot (m1, m2) = (wayO ot (m1, m2)).filter (spk ot (m1, m2))) := Lib.hid rfl
  clear h
  go_enter Try.func12, Try.ntmps12
  go_wp2_with fail
  obtain ⟨W0, hW0, b0, B⟩ : ∃ W0, w.alloc (.cells #[.int .i64 m1, .int .i64 m2] 26) = W0 ∧ Box W0 w.heap.size [.int .i64 m1, .int .i64 m2] ∧ Below w.heap.size w W0 := ⟨_, rfl, Box.new w _ _, below_new _ _⟩
  rw [hW0]
  clear hW0
  replace HX := Lib.hid (keeps_spots _ _ _ _ _ _ HX.out B B.size)
  refine (refWay_any v ot m1 m2 W0 HX.out hn hh).mono ?_
  rintro e W1 ⟨u, rfl, hu, hb⟩
  replace b0 := b0.next hb
  replace B := B.trans (hb.mono B.size)
  replace HX := Lib.hid (keeps_spots _ _ _ _ _ _ HX.out hb hb.size)
  obtain ⟨xs, hxs⟩ : ∃ xs, wayO ot (m1, m2) = xs := ⟨_, rfl⟩
  rw [hxs] at hu HWL HSP
  obtain ⟨A, cap, rfl, hlc, hcm, hp⟩ := mems_at hu
  have hcm2 : cap ≤ 9223372036854775807 := Nat.le_trans hcm (by decide)
  have HP := Lib.hid hp
  have hxl := HWL.out
  clear hp hu hb hcm hxs HWL hh
  have hW1l : w.heap.size < W1.heap.size := b0.lt
  obtain ⟨N, hN⟩ : ∃ N, W1.heap.size = N := ⟨_, rfl⟩
  have HNN := Lib.hid hN
  clear hN
  go_wp2_with fail
  go_loopw [5, 7] (fun s i wr => ∃ (k : Nat) (wq : World) (uq : Value), wq = wr ∧ uq = s ∧ k ≤ xs.length ∧ i = .int .i64 k ∧ wr.ownsRow N 24 2 s ((xs.take k).filter (spk ot (m1, m2))).length (((xs.take k).filter (spk ot (m1, m2))).flatMap mC) ∧ Box wr w.heap.size [.int .i64 m1, .int .i64 m2] ∧ Below w.heap.size w wr ∧ Below N W1 wr) (fun _ i _ => xs.length - (intOf i).toNat)
  case atStart => exact ⟨0, _, _, rfl, rfl, Nat.zero_le _, rfl, World.ownsRow_nil _ _ _ _, b0, B, by rw [← HNN.out]; exact Below.refl _ _⟩
  case round =>
    clear b0 B
    obtain ⟨k, wr, s, rfl, rfl, hk, rfl, hown, bx, B, BN⟩ := hrel
    by_cases hlt : k < xs.length
    · have hd : decide (k < xs.length) = true := by simpa using hlt
      have hi : (k : Int) < (xs.length : Int) := by omega
      have hge : (0 : Int) ≤ (k : Int) := by omega
      obtain ⟨g, off, rfl, hbn, hc0, hc1⟩ := HP.out k hlt
      have hbN : g < N := by rw [← HNN.out]; exact hbn
      have k0 := (BN.cell (p := ⟨g, off + k * 2, none⟩) hbN).trans hc0
      have k1 := (BN.cell (p := ⟨g, off + k * 2 + 1, none⟩) hbN).trans hc1
      have HF := Lib.hid (filterL_take (f := spk ot (m1, m2)) xs k hlt)
      have hfl := filterL_len (spk ot (m1, m2)) xs k
      obtain ⟨⟨x, y⟩, hb⟩ : ∃ b, xs[k] = b := ⟨_, rfl⟩
      rw [hb] at k0 k1 HF
      clear hb hc0 hc1
      go_wp2_with fail
      have HXr := Lib.hid (keeps_spots _ _ _ _ _ _ HX.out (by rw [HNN.out]; exact BN) BN.size)
      refine (refWho_any v ot x y wr HXr.out hn).mono ?_
      rintro e w1 ⟨rfl, hb⟩
      replace bx := bx.next hb
      have hown1 := owns_below hown hb
      have B1 := B.trans (hb.mono B.size)
      have hNr : N ≤ wr.heap.size := by have := BN.size; rw [HNN.out] at this; exact this
      have BN1 := BN.trans (hb.mono hNr)
      have hNs1 : N ≤ w1.heap.size := Nat.le_trans hNr hb.size
      replace k0 := (hb.cell (p := ⟨g, off + k * 2, none⟩) (Nat.lt_of_lt_of_le hbN hNr)).trans k0
      replace k1 := (hb.cell (p := ⟨g, off + k * 2 + 1, none⟩) (Nat.lt_of_lt_of_le hbN hNr)).trans k1
      obtain ⟨⟨⟨a, b⟩, c⟩, hwho⟩ : ∃ q, whoO ot x y = q := ⟨_, rfl⟩
      have HSK : Hid (spk ot (m1, m2) (x, y) = (decide ((a, b) = (m1, m2)) && decide (0 < x))) := Lib.hid (by unfold spk; rw [hwho])
      rw [hwho]
      clear hwho hown B BN hb HXr
      have hg1 : g < w1.heap.size := Nat.lt_of_lt_of_le hbN hNs1
      have q0 := fun o => (bx.next (below_new w1 o)).c 0 _ rfl
      have q1 := fun o => (bx.next (below_new w1 o)).c 1 _ rfl
      have c0 := fun o => ((below_new w1 o).cell (p := ⟨g, off + k * 2, none⟩) hg1).trans k0
      have c1 := fun o => ((below_new w1 o).cell (p := ⟨g, off + k * 2 + 1, none⟩) hg1).trans k1
      have hownA := hown1.alloc (.cells #[.int .i64 a, .int .i64 b] 26)
      have bxA := bx.next (below_new w1 (.cells #[.int .i64 a, .int .i64 b] 26))
      have BA := B1.alloc B1.size (.cells #[.int .i64 a, .int .i64 b] 26)
      have BNA := BN1.alloc hNs1 (.cells #[.int .i64 a, .int .i64 b] 26)
      have hwN : w.heap.size < N := by rw [← HNN.out]; exact hW1l
      clear hown1 bx B1 BN1
      by_cases he : (a, b) = (m1, m2)
      · by_cases hx0 : 0 < x
        · have hx1 : decide (0 < x) = true := decide_eq_true hx0
          have HF2 : Hid ((xs.take (k + 1)).filter (spk ot (m1, m2)) = (xs.take k).filter (spk ot (m1, m2)) ++ [(x, y)]) := Lib.hid (by rw [HF.out, HSK.out, if_pos (by simp [he, hx0])])
          obtain ⟨rfl, rfl⟩ : a = m1 ∧ b = m2 := by simpa using he
          clear he HF HSK
          go_wp2_with (at_builtin; refine append_labs _ rfl _ _ rfl N _ _ _ rfl (hownA.alloc _) _ _ _ rfl (one_mem _ x y _ _ (by simp)) ?c1 ?c2 ?_)
          case c1 => exact Nat.le_trans (Nat.add_le_add hfl (Nat.le_refl 1)) (by omega)
          case c2 => simp; omega
          intro v' w' hown' hgr
          have B2 := (BA.alloc BA.size (.cells #[.int .i64 x, .int .i64 y] 24)).grown hgr (by have := BA.size; simp at this ⊢; omega) (fun k hk => by have := (hownA.lt k hk).1; omega)
          have BN2 := (BNA.alloc (by simp; omega) (.cells #[.int .i64 x, .int .i64 y] 24)).grown hgr (by simp; omega) (fun k hk => (hownA.lt k hk).1)
          have bx2 := (bxA.next (below_new _ (.cells #[.int .i64 x, .int .i64 y] 24))).keep (hgr.block w.heap.size (by have := bxA.lt; simp at this ⊢; omega) (fun e => by have := (hownA.lt _ e.symm).1; omega))
          have HO2 : Hid (w'.ownsRow N 24 2 v' ((xs.take (k + 1)).filter (spk ot (a, b))).length (((xs.take (k + 1)).filter (spk ot (a, b))).flatMap mC)) := Lib.hid (by rw [HF2.out]; simpa using hown')
          clear hownA bxA BA BNA c0 c1 q0 q1 k0 k1 hgr hown' HF2
          go_wp2
          go_roundw
          case rel => exact ⟨k + 1, _, _, rfl, rfl, by omega, by go_num, HO2.out, bx2, B2, BN2⟩
          case measure => simp [intOf]; omega
        · have hx1 : decide (0 < x) = false := decide_eq_false hx0
          have HF2 : Hid ((xs.take (k + 1)).filter (spk ot (m1, m2)) = (xs.take k).filter (spk ot (m1, m2))) := Lib.hid (by rw [HF.out, HSK.out, if_neg (by simp [hx0]), List.append_nil])
          obtain ⟨rfl, rfl⟩ : a = m1 ∧ b = m2 := by simpa using he
          clear he HF HSK hx0
          go_wp2
          go_roundw
          case rel => exact ⟨k + 1, _, _, rfl, rfl, by omega, by go_num, by rw [HF2.out]; exact hownA, bxA, BA, BNA⟩
          case measure => simp [intOf]; omega
      · have hne' : a = m1 → b = m2 → False := fun e2 e3 => he (by rw [e2, e3])
        have HF2 : Hid ((xs.take (k + 1)).filter (spk ot (m1, m2)) = (xs.take k).filter (spk ot (m1, m2))) := Lib.hid (by rw [HF.out, HSK.out, if_neg (by rw [decide_eq_false he]; simp), List.append_nil])
        by_cases e2 : a = m1
        · subst e2
          have e3 : ¬ b = m2 := fun e => hne' rfl e
          clear hne' he HF HSK
          go_wp2
          go_roundw
          case rel => exact ⟨k + 1, _, _, rfl, rfl, by omega, by go_num, by rw [HF2.out]; exact hownA, bxA, BA, BNA⟩
          case measure => simp [intOf]; omega
        · clear hne' he HF HSK
          go_wp2
          go_roundw
          case rel => exact ⟨k + 1, _, _, rfl, rfl, by omega, by go_num, by rw [HF2.out]; exact hownA, bxA, BA, BNA⟩
          case measure => simp [intOf]; omega
    · have hd : decide (k < xs.length) = false := by simpa using hlt
      have hkk : xs.take k = xs := List.take_of_length_le (by omega)
      rw [hkk] at hown
      obtain ⟨g', c', n', rfl⟩ : ∃ ao n' cap, s = Value.slice ao n' cap := by
        rcases hown.2 with ⟨hv, _⟩ | ⟨g, cap, cur, hv, _⟩
        · exact ⟨_, _, _, hv⟩
        · exact ⟨_, _, _, hv⟩
      have HO := Lib.hid (own_labs hown)
      clear hkk hown
      go_wp2
      go_ret
      rw [HSP.out]
      exact ⟨_, rfl, HO.out, B⟩
end Go.Proofs.Ytlmkgkfildgkgaa
