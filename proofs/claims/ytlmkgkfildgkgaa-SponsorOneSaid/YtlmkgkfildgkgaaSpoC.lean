import Derived.Test.YtlmkgkfildgkgaaLabC
import Derived.Test.YtlmkgkfildgkgaaTreeL
import Derived.Test.YtlmkgkfildgkgaaSpoR
import Derived.Test.YtlmkgkfildgkgaaPruN
/- The landed Of and Speaks of layer 13. Condition: the slice reads as the spots of a tree that may be, or of nothing, at most 60 high. -/
namespace Go.Proofs.Ytlmkgkfildgkgaa
open Go Go.RowKit
set_option linter.unusedVariables false

theorem way_there {ot : Option Tr} {m : Int × Int} (hk : okT (spo ot) = true) (hh : htO ot ≤ 60) (x : Int × Int) (hx : x ∈ wayO ot m) : (whoO ot x.1 x.2).2 = true := by
  cases ot with
  | none => cases hx
  | some t =>
    cases hof : off t m with
    | none => simp [wayO, offO, hof] at hx
    | some p =>
      have hd : (lv (flat t)).Nodup := ((once_iff _).1 (okT_parts hk).2.2).2
      have hp : p.length ≤ 60 := by have := off_high hof; have h2 : ht t ≤ 60 := hh; omega
      have e : wayO (some t) m = ups p.length (idx p) := by simp [wayO, offO, hof]
      rw [e, ups_range, List.mem_map] at hx
      obtain ⟨j, hj, rfl⟩ := hx
      exact (spk_at hof hd hp (by have := List.mem_range.1 hj; omega)).2

set_option maxRecDepth 100000 in
set_option maxHeartbeats 8000000 in
theorem sOf_any (v : Value) (ot : Option Tr) (L I : Int) (w : World) (h : Spots w.heap.size w (spo ot) [v]) (hk : okT (spo ot) = true) (hh : htO ot ≤ 60) :
    Calls Try.prog 8 #[v, vM L I] w fun e W' => e = .returned (.tuple #[vM (whoO ot L I).1.1 (whoO ot L I).1.2, .bool (whoO ot L I).2]) ∧ Below w.heap.size w W' := by
  have hn : (spo ot).length ≤ 1000000 := by have := (okT_parts hk).1; omega
  have HX := Lib.hid h
  have HW := Lib.hid (who_part ot L I)
  have hpl : (partO ot L I).length ≤ 1000000 := by
    rcases at_part ot L I with ⟨_, e⟩ | ⟨o, u, _, e, hle, _⟩
    · rw [e]; exact Nat.zero_le _
    · rw [e]; omega
  clear h
  go_enter Try.func8, Try.ntmps8
  go_wp2_with fail
  obtain ⟨W0, hW0, b0, b1, B⟩ := new2 w [.int .i64 L, .int .i64 I] [.int .i64 0, .int .i64 0] 24 26
  rw [hW0]
  clear hW0
  have q0 := b0.c 0 _ rfl
  have q1 := b0.c 1 _ rfl
  replace HX := Lib.hid (keeps_spots _ _ _ _ _ _ HX.out B B.size)
  go_wp2_with fail
  refine (lPart_any _ ot L I W0 HX.out hk hh).mono ?_
  rintro e W1 ⟨vp, rfl, hp, hb⟩
  replace b1 := b1.next hb
  replace B := B.trans (hb.mono B.size)
  clear hb q0 q1 b0
  have HP := Lib.hid hp
  clear hp
  go_wp2_with fail
  refine (leaves_any vp (partO ot L I) W1 HP.out hpl).mono ?_
  rintro e W2 ⟨vm, rfl, hm, hb⟩
  replace b1 := b1.next hb
  replace B := B.trans (hb.mono B.size)
  clear hb HP
  have g0 := b1.f 0 (by simp)
  have g1 := b1.f 1 (by simp)
  have HB : Hid (Below w.heap.size w ((W2.setCell ⟨w.heap.size + 1, 0, none⟩ (.int .i64 (whoO ot L I).1.1)).setCell ⟨w.heap.size + 1, 1, none⟩ (.int .i64 (whoO ot L I).1.2))) := Lib.hid ((B.setCell (p := ⟨w.heap.size + 1, 0, none⟩) (Nat.le_succ _) _).setCell (p := ⟨w.heap.size + 1, 1, none⟩) (Nat.le_succ _) _)
  have HS := Lib.hid (b1.two (.int .i64 (whoO ot L I).1.1) (.int .i64 (whoO ot L I).1.2))
  rcases HW.out with ⟨e1, e2⟩ | ⟨u, e1, e2⟩
  · rw [e1] at hm
    rw [e2] at HB HS
    have HE := Lib.hid e2
    clear e2
    obtain ⟨Am, cm, rfl, _, _⟩ := mems_len hm 0 rfl
    have s0 := HS.out.c 0 _ rfl
    have s1 := HS.out.c 1 _ rfl
    clear e1 hm
    have t0 := b1.c 0 _ rfl
    have t1 := b1.c 1 _ rfl
    go_wp2
    refine bodyPost_ret (v := .tuple #[.agg #[.int .i64 0, .int .i64 0], .bool false]) (by simp [results, Try.results8, go_sem, s0, s1]) rfl ?_
    rw [HE.out]
    exact ⟨rfl, HB.out⟩
  · obtain ⟨ys, ey⟩ := last_lv u
    obtain ⟨⟨x, y⟩, hxy⟩ : ∃ q, lastM u = q := ⟨_, rfl⟩
    rw [e1, ey, hxy] at hm
    rw [hxy] at e2
    rw [e2] at HB HS
    have HE := Lib.hid e2
    clear e2
    have s0 := HS.out.c 0 _ rfl
    have s1 := HS.out.c 1 _ rfl
    obtain ⟨Am, cm, rfl, hl, hcm, hp⟩ := mems_at hm
    obtain ⟨gm, om, rfl, hgm, k0, k1⟩ := hp ys.length (by simp)
    simp only [List.getElem_concat_length] at k0 k1
    have hle : (ys ++ [(x, y)]).length = ys.length + 1 := by simp
    rw [hle] at hl ⊢
    have hyl : ys.length ≤ 1000000 := by
      have h1 := lv_length_le (flat u)
      rw [ey] at h1
      rw [e1] at hpl
      simp at h1
      omega
    have hwr : wrap64 (ys.length : Int) = (ys.length : Int) := by unfold wrap64; omega
    clear e1 hm ey hp hle
    have t0 := b1.c 0 _ rfl
    have t1 := b1.c 1 _ rfl
    go_wp2
    refine bodyPost_ret (v := .tuple #[.agg #[.int .i64 x, .int .i64 y], .bool true]) (by simp [results, Try.results8, go_sem, s0, s1]) rfl ?_
    rw [HE.out]
    exact ⟨rfl, HB.out⟩
set_option maxRecDepth 100000 in
set_option maxHeartbeats 8000000 in
theorem sSpeaks_any (v : Value) (ot : Option Tr) (m1 m2 : Int) (w : World) (h : Spots w.heap.size w (spo ot) [v]) (hk : okT (spo ot) = true) (hh : htO ot ≤ 60) :
    Calls Try.prog 11 #[v, vM m1 m2] w fun e W' => ∃ v', e = .returned v' ∧ Mems W'.heap.size W' (speaksO ot (m1, m2)) [v'] ∧ Below w.heap.size w W' := by
  have hn : (spo ot).length ≤ 1000000 := by have := (okT_parts hk).1; omega
  have HX := Lib.hid h
  have HWL := Lib.hid (wayO_le ot (m1, m2) hh)
  have HSP : Hid (speaksO ot (m1, m2) = (wayO ot (m1, m2)).filter (spk ot (m1, m2))) := Lib.hid rfl
  have HTH := Lib.hid (fun x hx => way_there (m := (m1, m2)) hk hh x hx)
  have KO : Hid (∀ (x y : Int) (w : World), Spots w.heap.size w (spo ot) [v] → Calls Try.prog 8 #[v, vM x y] w fun e W' => e = .returned (.tuple #[vM (whoO ot x y).1.1 (whoO ot x y).1.2, .bool (whoO ot x y).2]) ∧ Below w.heap.size w W') := Lib.hid fun x y w h => sOf_any v ot x y w h hk hh
  clear h
  go_enter Try.func11, Try.ntmps11
  go_wp2_with fail
  obtain ⟨W0, hW0, b0, B⟩ : ∃ W0, w.alloc (.cells #[.int .i64 m1, .int .i64 m2] 26) = W0 ∧ Box W0 w.heap.size [.int .i64 m1, .int .i64 m2] ∧ Below w.heap.size w W0 := ⟨_, rfl, Box.new w _ _, below_new _ _⟩
  rw [hW0]
  clear hW0
  replace HX := Lib.hid (keeps_spots _ _ _ _ _ _ HX.out B B.size)
  refine (lWay_any v ot m1 m2 W0 HX.out hk hh).mono ?_
  rintro e W1 ⟨u, rfl, hu, hb⟩
  replace b0 := b0.next hb
  replace B := B.trans (hb.mono B.size)
  replace HX := Lib.hid (keeps_spots _ _ _ _ _ _ HX.out hb hb.size)
  obtain ⟨xs, hxs⟩ : ∃ xs, wayO ot (m1, m2) = xs := ⟨_, rfl⟩
  rw [hxs] at hu HWL HSP HTH
  obtain ⟨A, cap, rfl, hlc, hcm, hp⟩ := mems_at hu
  have hcm2 : cap ≤ 9223372036854775807 := Nat.le_trans hcm (by decide)
  have HP := Lib.hid hp
  have hxl := HWL.out
  clear hp hu hb hcm hxs HWL hh
  have hW1l : w.heap.size < W1.heap.size := b0.lt
  obtain ⟨N, hN⟩ : ∃ N, W1.heap.size = N := ⟨_, rfl⟩
  have HNN := Lib.hid hN
  clear hN
  go_wp2_with fail
  go_loopw [5, 14] (fun s i wr => ∃ (k : Nat) (wq : World) (uq : Value), wq = wr ∧ uq = s ∧ k ≤ xs.length ∧ i = .int .i64 k ∧ wr.ownsRow N 24 2 s ((xs.take k).filter (spk ot (m1, m2))).length (((xs.take k).filter (spk ot (m1, m2))).flatMap mC) ∧ Box wr w.heap.size [.int .i64 m1, .int .i64 m2] ∧ Below w.heap.size w wr ∧ Below N W1 wr) (fun _ i _ => xs.length - (intOf i).toNat)
  case atStart => exact ⟨0, _, _, rfl, rfl, Nat.zero_le _, rfl, World.ownsRow_nil _ _ _ _, b0, B, by rw [← HNN.out]; exact Below.refl _ _⟩
  case round =>
    clear b0 B
    obtain ⟨k, wr0, s, rfl, rfl, hk2, rfl, hown, bx, B, BN⟩ := hrel
    by_cases hlt : k < xs.length
    · have hd : decide (k < xs.length) = true := by simpa using hlt
      have hi : (k : Int) < (xs.length : Int) := by omega
      have hge : (0 : Int) ≤ (k : Int) := by omega
      obtain ⟨g, off, rfl, hbn, hc0, hc1⟩ := HP.out k hlt
      have hbN : g < N := by rw [← HNN.out]; exact hbn
      have k0 := (BN.cell (p := ⟨g, off + k * 2, none⟩) hbN).trans hc0
      have k1 := (BN.cell (p := ⟨g, off + k * 2 + 1, none⟩) hbN).trans hc1
      have HF := Lib.hid (filterL_take (f := spk ot (m1, m2)) xs k hlt)
      have hfl := filterL_len (spk ot (m1, m2)) xs k
      have hth := HTH.out xs[k] (List.getElem_mem hlt)
      obtain ⟨⟨x, y⟩, hb⟩ : ∃ b, xs[k] = b := ⟨_, rfl⟩
      rw [hb] at k0 k1 HF hth
      clear hb hc0 hc1
      go_wp2_with fail
      -- the label, by a name of its own
      obtain ⟨wr, hwr, bl, hb⟩ : ∃ wr, wr0.alloc (.cells #[.int .i64 x, .int .i64 y] 24) = wr ∧ Box wr wr0.heap.size [.int .i64 x, .int .i64 y] ∧ Below wr0.heap.size wr0 wr := ⟨_, rfl, Box.new wr0 _ _, below_new _ _⟩
      rw [hwr]
      have hNr0 : N ≤ wr0.heap.size := by have := BN.size; rw [HNN.out] at this; exact this
      replace bx := bx.next hb
      replace hown := owns_below hown hb
      replace B := B.trans (hb.mono B.size)
      replace BN := BN.trans (hb.mono hNr0)
      clear hwr hb k0 k1 hNr0
      have x0 := bl.c 0 _ rfl
      have x1 := bl.c 1 _ rfl
      go_wp2_with fail
      have HXr := Lib.hid (keeps_spots _ _ _ _ _ _ HX.out (by rw [HNN.out]; exact BN) BN.size)
      refine (KO.out x y wr HXr.out).mono ?_
      rintro e w1 ⟨rfl, hb⟩
      replace bx := bx.next hb
      replace bl := bl.next hb
      have hown1 := owns_below hown hb
      have B1 := B.trans (hb.mono B.size)
      have hNr : N ≤ wr.heap.size := by have := BN.size; rw [HNN.out] at this; exact this
      have BN1 := BN.trans (hb.mono hNr)
      have hNs1 : N ≤ w1.heap.size := Nat.le_trans hNr hb.size
      obtain ⟨⟨⟨a, b⟩, c⟩, hwho⟩ : ∃ q, whoO ot x y = q := ⟨_, rfl⟩
      have HSK : Hid (spk ot (m1, m2) (x, y) = (decide ((a, b) = (m1, m2)) && decide (0 < x))) := Lib.hid (by unfold spk; rw [hwho])
      rw [hwho] at hth
      subst hth
      rw [hwho]
      clear hwho hown B BN hb HXr x0 x1
      have q0 := fun o => (bx.next (below_new w1 o)).c 0 _ rfl
      have q1 := fun o => (bx.next (below_new w1 o)).c 1 _ rfl
      have c0 := fun o => (bl.next (below_new w1 o)).c 0 _ rfl
      have c1 := fun o => (bl.next (below_new w1 o)).c 1 _ rfl
      have hownA := hown1.alloc (.cells #[.int .i64 a, .int .i64 b] 26)
      have bxA := bx.next (below_new w1 (.cells #[.int .i64 a, .int .i64 b] 26))
      have BA := B1.alloc B1.size (.cells #[.int .i64 a, .int .i64 b] 26)
      have BNA := BN1.alloc hNs1 (.cells #[.int .i64 a, .int .i64 b] 26)
      have hwN : w.heap.size < N := by rw [← HNN.out]; exact hW1l
      clear hown1 bx B1 BN1
      by_cases he : (a, b) = (m1, m2)
      · by_cases hx0 : 0 < x
        · have hx1 : decide (0 < x) = true := decide_eq_true hx0
          have HF2 : Hid ((xs.take (k + 1)).filter (spk ot (m1, m2)) = (xs.take k).filter (spk ot (m1, m2)) ++ [(x, y)]) := Lib.hid (by rw [HF.out, HSK.out, if_pos (by simp [he, hx0])])
          obtain ⟨rfl, rfl⟩ : a = m1 ∧ b = m2 := by simpa using he
          clear he HF HSK
          go_wp2_with (at_builtin; refine append_labs _ rfl _ _ rfl N _ _ _ rfl (hownA.alloc _) _ _ _ rfl (one_mem _ x y _ _ (by simp)) ?c1 ?c2 ?_)
          case c1 => exact Nat.le_trans (Nat.add_le_add hfl (Nat.le_refl 1)) (by omega)
          case c2 => simp; omega
          intro v' w' hown' hgr
          have B2 := (BA.alloc BA.size (.cells #[.int .i64 x, .int .i64 y] 24)).grown hgr (by have := BA.size; simp at this ⊢; omega) (fun k hk => by have := (hownA.lt k hk).1; omega)
          have BN2 := (BNA.alloc (by simp; omega) (.cells #[.int .i64 x, .int .i64 y] 24)).grown hgr (by simp; omega) (fun k hk => (hownA.lt k hk).1)
          have bx2 := (bxA.next (below_new _ (.cells #[.int .i64 x, .int .i64 y] 24))).keep (hgr.block w.heap.size (by have := bxA.lt; simp at this ⊢; omega) (fun e => by have := (hownA.lt _ e.symm).1; omega))
          have HO2 : Hid (w'.ownsRow N 24 2 v' ((xs.take (k + 1)).filter (spk ot (a, b))).length (((xs.take (k + 1)).filter (spk ot (a, b))).flatMap mC)) := Lib.hid (by rw [HF2.out]; simpa using hown')
          clear hownA bxA BA BNA c0 c1 q0 q1 hgr hown' HF2 bl
          go_wp2
          go_roundw
          case rel => exact ⟨k + 1, _, _, rfl, rfl, by omega, by go_num, HO2.out, bx2, B2, BN2⟩
          case measure => simp [intOf]; omega
        · have hx1 : decide (0 < x) = false := decide_eq_false hx0
          have HF2 : Hid ((xs.take (k + 1)).filter (spk ot (m1, m2)) = (xs.take k).filter (spk ot (m1, m2))) := Lib.hid (by rw [HF.out, HSK.out, if_neg (by simp [hx0]), List.append_nil])
          obtain ⟨rfl, rfl⟩ : a = m1 ∧ b = m2 := by simpa using he
          clear he HF HSK hx0
          go_wp2
          go_roundw
          case rel => exact ⟨k + 1, _, _, rfl, rfl, by omega, by go_num, by rw [HF2.out]; exact hownA, bxA, BA, BNA⟩
          case measure => simp [intOf]; omega
      · have hne' : a = m1 → b = m2 → False := fun e2 e3 => he (by rw [e2, e3])
        have HF2 : Hid ((xs.take (k + 1)).filter (spk ot (m1, m2)) = (xs.take k).filter (spk ot (m1, m2))) := Lib.hid (by rw [HF.out, HSK.out, if_neg (by rw [decide_eq_false he]; simp), List.append_nil])
        by_cases e2 : a = m1
        · subst e2
          have e3 : ¬ b = m2 := fun e => hne' rfl e
          clear hne' he HF HSK
          go_wp2
          go_roundw
          case rel => exact ⟨k + 1, _, _, rfl, rfl, by omega, by go_num, by rw [HF2.out]; exact hownA, bxA, BA, BNA⟩
          case measure => simp [intOf]; omega
        · clear hne' he HF HSK
          go_wp2
          go_roundw
          case rel => exact ⟨k + 1, _, _, rfl, rfl, by omega, by go_num, by rw [HF2.out]; exact hownA, bxA, BA, BNA⟩
          case measure => simp [intOf]; omega
    · have hd : decide (k < xs.length) = false := by simpa using hlt
      have hkk : xs.take k = xs := List.take_of_length_le (by omega)
      rw [hkk] at hown
      obtain ⟨g', c', n', rfl⟩ : ∃ ao n' cap, s = Value.slice ao n' cap := by
        rcases hown.2 with ⟨hv, _⟩ | ⟨g, cap, cur, hv, _⟩
        · exact ⟨_, _, _, hv⟩
        · exact ⟨_, _, _, hv⟩
      have HO := Lib.hid (own_labs hown)
      clear hkk hown
      go_wp2
      go_ret
      rw [HSP.out]
      exact ⟨_, rfl, HO.out, B⟩
end Go.Proofs.Ytlmkgkfildgkgaa
