import Derived.Test.YtkmlnglmecjmeaaSrtQ
import Derived.Test.YtkmlnglmecjmeaaPlaH
import Derived.Test.YtkmlnglmecjmeaaMemA
import Derived.Test.YtkmlnglmecjmeaaPhaseA
/- slices.Compact of members that are each there once; layer 15's whoDraw, Members, Fresh. Conditions: what the members tell may be (okFs), as far as named. -/
namespace Go.Proofs.Ytkmlnglmecjmeaa
open Go Go.RowKit
set_option linter.unusedVariables false

set_option maxRecDepth 100000 in
set_option maxHeartbeats 8000000 in
theorem compact_any (v : Value) (ms : List (Int × Int)) (w : World) (h : Mems w.heap.size w ms [v]) (hd : ms.Nodup) (hn : ms.length ≤ 1000) :
    Calls Try.prog 26 #[v] w fun e W' => e = .returned v ∧ Below w.heap.size w W' := by
  obtain ⟨A, cap, rfl, hlc, hcm, hp⟩ := mems_at h
  have HP := Lib.hid hp
  have HD : Hid (∀ p q : Nat, (hq : q < ms.length) → (hp : p + 1 = q) → ms[q] ≠ ms[p]'(by omega)) := Lib.hid fun p q hq hp e => (List.pairwise_iff_getElem.1 hd) p q (by omega) hq (by omega) e.symm
  obtain ⟨N, hN⟩ : ∃ N, ms.length = N := ⟨_, rfl⟩
  have HN := Lib.hid hN
  rw [hN] at hn
  rw [hN]
  clear hp h hcm hd hlc hN
  by_cases h2 : N < 2
  · have hd1 : decide (N < 2) = true := decide_eq_true h2
    have hd2 : decide ((N : Int) < 2) = true := decide_eq_true (by omega)
    have h3 : (N : Int) < 2 := by omega
    go_enter Try.func26, Try.ntmps26
    go_wp2
    go_ret
    exact ⟨rfl, Below.refl _ _⟩
  · have hd1 : decide (N < 2) = false := decide_eq_false h2
    have hd2 : decide ((N : Int) < 2) = false := decide_eq_false (by omega)
    have h3 : ¬ (N : Int) < 2 := by omega
    go_enter Try.func26, Try.ntmps26
    go_wp2_with fail
    go_loopw [3] (fun kv wr => ∃ (k : Nat) (wq : World), wq = wr ∧ 0 < k ∧ k ≤ N ∧ kv = .int .i64 (k : Int) ∧ Below w.heap.size w wr) (fun kv _ => N - (intOf kv).toNat)
    case atStart => exact ⟨1, _, rfl, by decide, by omega, rfl, Below.refl _ _⟩
    case round =>
      obtain ⟨q, wz, rfl, hq0, hq1, rfl, B⟩ := hrel
      by_cases hlt : q < N
      · have hd : decide (q < N) = true := decide_eq_true hlt
        have hiq : (q : Int) < (N : Int) := by omega
        have hgq : (0 : Int) ≤ (q : Int) := by omega
        obtain ⟨p, hpq⟩ : ∃ p, p + 1 = q := ⟨q - 1, by omega⟩
        have hip : (p : Int) < (N : Int) := by omega
        have hgp : (0 : Int) ≤ (p : Int) := by omega
        have hwq : IntKind.i64.wrap ((q : Int) - 1) = (p : Int) := by rw [IntKind.wrap_i64]; omega
        have hwq2 : (q : Int) - 1 = (p : Int) := by omega
        have hqn : q < ms.length := by rw [HN.out]; exact hlt
        obtain ⟨g, off, rfl, hbn, hc0, hc1⟩ := HP.out q hqn
        obtain ⟨g2, off2, e, -, hc2, hc3⟩ := HP.out p (by omega)
        simp only [Option.some.injEq, Addr.mk.injEq, and_true] at e
        obtain ⟨rfl, rfl⟩ := e
        have k0 := (B.cell (p := ⟨g, off + q * 2, none⟩) hbn).trans hc0
        have k1 := (B.cell (p := ⟨g, off + q * 2 + 1, none⟩) hbn).trans hc1
        have k2 := (B.cell (p := ⟨g, off + p * 2, none⟩) hbn).trans hc2
        have k3 := (B.cell (p := ⟨g, off + p * 2 + 1, none⟩) hbn).trans hc3
        have hgw : g < wz.heap.size := Nat.lt_of_lt_of_le hbn B.size
        have hne0 := HD.out p q hqn hpq
        obtain ⟨⟨x0, x1⟩, hx⟩ : ∃ x, ms[q] = x := ⟨_, rfl⟩
        obtain ⟨⟨y0, y1⟩, hy⟩ : ∃ y, ms[p]'(by omega) = y := ⟨_, rfl⟩
        rw [hx] at k0 k1 hne0
        rw [hy] at k2 k3 hne0
        simp only at k0 k1 k2 k3
        have hne : x0 = y0 → ¬ x1 = y1 := fun e1 e2 => hne0 (by rw [e1, e2])
        clear hc0 hc1 hc2 hc3 hx hy hne0
        go_wp2_with fail
        refine wp_region_plan (fun i => ([.slice (some ⟨g, off, none⟩) N cap, .int .i64 (q : Int), .pointer (some ⟨g, off + q * 2, none⟩), .agg #[.int .i64 x0, .int .i64 x1], .slice (some ⟨g, off, none⟩) N cap, .int .i64 (q : Int), .int .i64 (p : Int), .pointer (some ⟨g, off + p * 2, none⟩), .agg #[.int .i64 y0, .int .i64 y1], .bool false] : List Value).getD i undef) [] [0, 0, 0, 0, 0, 0, 0, 0, 0, 0] (fun _ w' => Below wz.heap.size wz w') (by kernel_rfl) (by kernel_rfl) (⟨rfl, rfl, rfl, Nat.le_refl _, fun _ _ => rfl⟩) ?_ ?_
        · refine Obs_of_ends (by kernel_rfl) ?_
          intro Fr hEA
          refine ⟨?_, ?_, ?_, ?_, ?_, ?_, ?_, ?_, ?_, ?_, trivial⟩
          · exact ob_move _ rfl (want_none rfl) (by kernel_rfl) (eval_out hEA (d := 0) (by kernel_rfl))
          · exact ob_move _ rfl (want_none rfl) (by kernel_rfl) (eval_out hEA (d := 3) (by kernel_rfl))
          · refine ob_val (want_none rfl) (by kernel_rfl) (fun ph w' hp hpm hw => ?_)
            have e16 : Fr.tmps[16]? = some (.slice (some ⟨g, off, none⟩) N cap) := hEA.dst 0 _ 16 rfl rfl; have e17 : Fr.tmps[17]? = some (.int .i64 (q : Int)) := hEA.dst 1 _ 17 rfl rfl; simp [execOp, e16, e17, hiq, hgq, go_sem]
          · refine ob_val (want_none rfl) (by kernel_rfl) (fun ph w' hp hpm hw => ?_)
            have hc0 := (hw.cell (p := ⟨g, off + q * 2, none⟩) hgw).trans k0
            have hc1 := (hw.cell (p := ⟨g, off + q * 2 + 1, none⟩) hgw).trans k1
            have e18 : Fr.tmps[18]? = some (.pointer (some ⟨g, off + q * 2, none⟩)) := hEA.dst 2 _ 18 rfl rfl; simp [execOp, e18, hc0, hc1, go_sem]
          · exact ob_move _ rfl (want_none rfl) (by kernel_rfl) (eval_out hEA (d := 0) (by kernel_rfl))
          · exact ob_move _ rfl (want_none rfl) (by kernel_rfl) (eval_out hEA (d := 3) (by kernel_rfl))
          · refine ob_val (want_none rfl) (by kernel_rfl) (fun ph w' hp hpm hw => ?_)
            have e21 : Fr.tmps[21]? = some (.int .i64 (q : Int)) := hEA.dst 5 _ 21 rfl rfl; simp [execOp, e21, hwq, go_sem]
          · refine ob_val (want_none rfl) (by kernel_rfl) (fun ph w' hp hpm hw => ?_)
            have e20 : Fr.tmps[20]? = some (.slice (some ⟨g, off, none⟩) N cap) := hEA.dst 4 _ 20 rfl rfl; have e22 : Fr.tmps[22]? = some (.int .i64 (p : Int)) := hEA.dst 6 _ 22 rfl rfl; simp [execOp, e20, e22, hip, hgp, go_sem]
          · refine ob_val (want_none rfl) (by kernel_rfl) (fun ph w' hp hpm hw => ?_)
            have hc0 := (hw.cell (p := ⟨g, off + p * 2, none⟩) hgw).trans k2
            have hc1 := (hw.cell (p := ⟨g, off + p * 2 + 1, none⟩) hgw).trans k3
            have e23 : Fr.tmps[23]? = some (.pointer (some ⟨g, off + p * 2, none⟩)) := hEA.dst 7 _ 23 rfl rfl; simp [execOp, e23, hc0, hc1, go_sem]
          · refine ob_val (want_none rfl) (by kernel_rfl) (fun ph w' hp hpm hw => ?_)
            have e19 : Fr.tmps[19]? = some (.agg #[.int .i64 x0, .int .i64 x1]) := hEA.dst 3 _ 19 rfl rfl; have e24 : Fr.tmps[24]? = some (.agg #[.int .i64 y0, .int .i64 y1]) := hEA.dst 8 _ 24 rfl rfl; simp [execOp, e19, e24, go_sem]; exact hne
        · intro w' hw
          simp only [laid, Act.put, List.setIfInBounds_toArray, List.set_cons_succ, List.set_cons_zero, List.getD_cons_succ, List.getD_cons_zero, Nat.zero_add, Nat.reduceAdd]
          obtain ⟨wy, hwy⟩ : ∃ wy, w' = wy := ⟨_, rfl⟩
          rw [hwy] at hw
          rw [hwy]
          have B2 := B.trans (hw.mono B.size)
          clear hw hwy B k0 k1 k2 k3
          go_wp2
          go_roundw
          case rel => exact ⟨q + 1, _, rfl, by omega, by omega, by go_num, B2⟩
          case measure => simp [intOf]; omega
      · have hd : decide (q < N) = false := decide_eq_false hlt
        go_wp2
        go_ret
        exact ⟨rfl, B⟩

/-- Those who draw, wherever they stand. -/
def drM (l : List Fl) : List (Int × Int) := (l.filter fun f => f.want || decide (f.id = (0, 0, 0))).map (·.who)
theorem drM_snoc (fs : List Fl) (k : Nat) (h : k < fs.length) : drM (fs.take (k + 1)) = drM (fs.take k) ++ if (fs[k].want || decide (fs[k].id = (0, 0, 0))) = true then [fs[k].who] else [] := by
  unfold drM
  rw [List.take_succ_eq_append_getElem h, List.filter_append, List.map_append]
  congr 1
  rw [List.filter_cons, List.filter_nil]
  split <;> simp_all
theorem drM_le (fs : List Fl) : (drM fs).length ≤ fs.length := by
  unfold drM
  rw [List.length_map]
  exact List.length_filter_le _ _
theorem noneV_dec (a b c : Int) : noneV a b c = decide ((a, b, c) = ((0, 0, 0) : Int × Int × Int)) := by
  unfold noneV
  rw [Bool.eq_iff_iff]
  simp [and_assoc]
theorem drM_mem (l : List Fl) (m : Int × Int) : decide (m ∈ drM l) = drawsO l m := by
  unfold drM drawsO
  rw [Bool.eq_iff_iff, decide_eq_true_eq, List.any_eq_true, List.mem_map]
  constructor
  · rintro ⟨f, hf, e⟩
    obtain ⟨h1, h2⟩ := List.mem_filter.1 hf
    exact ⟨f, h1, by simp only [Bool.and_eq_true, decide_eq_true_eq]; exact ⟨e, h2⟩⟩
  · rintro ⟨f, h1, h2⟩
    simp only [Bool.and_eq_true, decide_eq_true_eq] at h2
    exact ⟨f, List.mem_filter.2 ⟨h1, h2.2⟩, h2.1⟩

set_option maxRecDepth 100000 in
set_option maxHeartbeats 8000000 in
theorem whoDraw_any (v : Value) (hs : List FH) (fs : List Fl) (w : World) (hH : FHs w.heap.size w hs [v]) (hE : EachF w.heap.size w hs fs) (hn0 : fs.length ≤ 1000) :
    Calls Try.prog 27 #[v] w fun e W' => ∃ v', e = .returned v' ∧ Mems W'.heap.size W' (drM fs) [v'] ∧ Below w.heap.size w W' := by
  obtain ⟨A, cap, rfl, hlc, hcm, hp⟩ := fhs_at hH
  have HP := Lib.hid hp
  have HE := Lib.hid hE
  have hl : hs.length = fs.length := hE.1
  have HL := Lib.hid hl
  have hn : hs.length ≤ 1000 := by rw [hl]; exact hn0
  clear hp hH hcm hE hl
  go_enter Try.func27, Try.ntmps27
  go_wp2_with fail
  go_loopw [3, 8] (fun u i wr => ∃ (k : Nat) (wq : World), wq = wr ∧ k ≤ hs.length ∧ i = .int .i64 k ∧ wr.ownsRow w.heap.size 27 2 u (drM (fs.take k)).length ((drM (fs.take k)).flatMap mC) ∧ Below w.heap.size w wr) (fun _ i _ => hs.length - (intOf i).toNat)
  case atStart => exact ⟨0, _, rfl, Nat.zero_le _, rfl, World.ownsRow_nil _ _ _ _, Below.refl _ _⟩
  case round =>
    obtain ⟨k, wz, rfl, hk, rfl, hown, B⟩ := hrel
    by_cases hlt : k < hs.length
    · have hd : decide (k < hs.length) = true := by simpa using hlt
      have hi : (k : Int) < (hs.length : Int) := by omega
      have hge : (0 : Int) ≤ (k : Int) := by omega
      obtain ⟨g, off, rfl, hgn, hc⟩ := HP.out k hlt
      have hfk : k < fs.length := by rw [← HL.out]; exact hlt
      obtain ⟨t1, t2, t3, -⟩ := HE.out.get k hlt hfk
      obtain ⟨⟨⟨a, b⟩, ⟨o1, o2, o3⟩, ⟨sA, sN, sK⟩, ⟨i1, i2, i3⟩, ⟨tA, tN, tK⟩, wt⟩, hf⟩ : ∃ f, hs[k] = f := ⟨_, rfl⟩
      rw [hf] at hc t1 t2 t3
      simp only at t1 t2 t3
      have y0 := (B.cell (p := ⟨g, off + k * 11, none⟩) hgn).trans (hc 0 _ rfl)
      have y1 := (B.cell (p := ⟨g, off + k * 11 + 1, none⟩) hgn).trans (hc 1 _ rfl)
      have y2 := (B.cell (p := ⟨g, off + k * 11 + 2, none⟩) hgn).trans (hc 2 _ rfl)
      have y3 := (B.cell (p := ⟨g, off + k * 11 + 3, none⟩) hgn).trans (hc 3 _ rfl)
      have y4 := (B.cell (p := ⟨g, off + k * 11 + 4, none⟩) hgn).trans (hc 4 _ rfl)
      have y5 := (B.cell (p := ⟨g, off + k * 11 + 5, none⟩) hgn).trans (hc 5 _ rfl)
      have y6 := (B.cell (p := ⟨g, off + k * 11 + 6, none⟩) hgn).trans (hc 6 _ rfl)
      have y7 := (B.cell (p := ⟨g, off + k * 11 + 7, none⟩) hgn).trans (hc 7 _ rfl)
      have y8 := (B.cell (p := ⟨g, off + k * 11 + 8, none⟩) hgn).trans (hc 8 _ rfl)
      have y9 := (B.cell (p := ⟨g, off + k * 11 + 9, none⟩) hgn).trans (hc 9 _ rfl)
      have y10 := (B.cell (p := ⟨g, off + k * 11 + 10, none⟩) hgn).trans (hc 10 _ rfl)
      clear hc hf
      have hsn := drM_snoc fs k hfk
      rw [← t1, ← t2, ← t3] at hsn
      have HS := Lib.hid hsn
      have hll : (drM (fs.take k)).length ≤ 1000 := Nat.le_trans (drM_le _) (by rw [List.length_take]; omega)
      clear t1 t2 t3 hsn
      cases wt
      · go_wp2_with fail
        obtain ⟨W0, hW0, b5, B0⟩ : ∃ W0, wz.alloc (.cells #[.int .i64 a, .int .i64 b, .int .i64 o1, .int .i64 o2, .int .i64 o3, .slice sA sN sK, .int .i64 i1, .int .i64 i2, .int .i64 i3, .slice tA tN tK, .bool false] 36) = W0 ∧ Box W0 wz.heap.size [.int .i64 a, .int .i64 b, .int .i64 o1, .int .i64 o2, .int .i64 o3, .slice sA sN sK, .int .i64 i1, .int .i64 i2, .int .i64 i3, .slice tA tN tK, .bool false] ∧ Below wz.heap.size wz W0 := ⟨_, rfl, Box.new wz _ _, below_new _ _⟩
        rw [hW0]
        have hown0 := owns_below hown B0
        have BB := B.trans (B0.mono B.size)
        clear hW0 hown B y0 y1 y2 y3 y4 y5 y6 y7 y8 y9 y10
        refine (none_any i1 i2 i3 W0).mono ?_
        rintro e W1 ⟨rfl, hb⟩
        replace b5 := b5.next hb
        replace hown0 := owns_below hown0 hb
        replace BB := BB.trans (hb.mono BB.size)
        clear hb B0
        have hz0 := noneV_dec i1 i2 i3
        cases hz : noneV i1 i2 i3
        · rw [hz] at hz0
          have HZ := Lib.hid hz0
          clear hz0 hz b5
          go_wp2
          go_roundw
          case rel => exact ⟨k + 1, _, rfl, by omega, by go_num, by rw [HS.out, ← HZ.out]; simpa using hown0, BB⟩
          case measure => simp [intOf]; omega
        · rw [hz] at hz0
          have HZ := Lib.hid hz0
          have q0 := b5.c 0 _ rfl
          have q1 := b5.c 1 _ rfl
          clear hz0 hz
          go_wp2_with (at_builtin; refine append_mems _ rfl _ _ rfl w.heap.size _ _ _ rfl (hown0.alloc _) _ _ _ rfl (one_mem _ _ _ _ _ (by simp)) ?c1 ?c2 ?_)
          case c1 => first | omega | (simp; omega)
          case c2 => have := BB.size; simp; omega
          intro v' w' hown' hgr
          have B2 := (BB.alloc BB.size (.cells #[.int .i64 a, .int .i64 b] 27)).grown hgr (by have := BB.size; simp; omega) (fun k hk => (hown0.lt k hk).1)
          go_wp2
          go_roundw
          case rel => exact ⟨k + 1, _, rfl, by omega, by go_num, by rw [HS.out, ← HZ.out]; simpa using hown', B2⟩
          case measure => simp [intOf]; omega
      · go_wp2_with (at_builtin; refine append_mems _ rfl _ _ rfl w.heap.size _ _ _ rfl ((hown.alloc _).alloc _) _ _ _ rfl (one_mem _ _ _ _ _ (by simp)) ?c1 ?c2 ?_)
        case c1 => first | omega | (simp; omega)
        case c2 => have := B.size; simp; omega
        intro v' w' hown' hgr
        have B1 := B.alloc B.size (.cells #[.int .i64 a, .int .i64 b, .int .i64 o1, .int .i64 o2, .int .i64 o3, .slice sA sN sK, .int .i64 i1, .int .i64 i2, .int .i64 i3, .slice tA tN tK, .bool true] 36)
        have B2 := (B1.alloc B1.size (.cells #[.int .i64 a, .int .i64 b] 27)).grown hgr (by have := B.size; simp; omega) (fun k hk => (hown.lt k hk).1)
        go_wp2
        go_roundw
        case rel => exact ⟨k + 1, _, rfl, by omega, by go_num, by rw [HS.out]; simpa using hown', B2⟩
        case measure => simp [intOf]; omega
    · have hd : decide (k < hs.length) = false := by simpa using hlt
      have hkk : fs.take k = fs := List.take_of_length_le (by have := HL.out; omega)
      rw [hkk] at hown
      obtain ⟨g', c', n', rfl⟩ : ∃ ao n' cap, _ = Value.slice ao n' cap := by
        rcases hown.2 with ⟨hv, _⟩ | ⟨g, cap, cur, hv, _⟩
        · exact ⟨_, _, _, hv⟩
        · exact ⟨_, _, _, hv⟩
      clear hkk
      go_wp2
      go_ret
      exact ⟨_, rfl, own_mems hown, B⟩

set_option maxRecDepth 100000 in
set_option maxHeartbeats 8000000 in
theorem membersP_any (v : Value) (hs : List FH) (fs : List Fl) (w : World) (hH : FHs w.heap.size w hs [v]) (hE : EachF w.heap.size w hs fs) (hn12 : fs.length ≤ 12) (hnd : (fs.map (·.who)).Nodup) :
    Calls Try.prog 11 #[v] w fun e W' => ∃ v', e = .returned v' ∧ Mems W'.heap.size W' (membersO fs) [v'] ∧ Below w.heap.size w W' ∧ ∀ g, v'.ownBlock = some g → w.heap.size ≤ g := by
  have hn0 : fs.length ≤ 1000 := by omega
  have HND := Lib.hid hnd
  rw [membersO_sort]
  obtain ⟨A, cap, rfl, hlc, hcm, hp⟩ := fhs_at hH
  have HP := Lib.hid hp
  have HE := Lib.hid hE
  have hl : hs.length = fs.length := hE.1
  have HL := Lib.hid hl
  have hn : hs.length ≤ 1000 := by rw [hl]; exact hn0
  clear hp hH hcm hE hl
  clear hnd
  go_enter Try.func11, Try.ntmps11
  go_wp2_with fail
  go_loopw [3, 8] (fun u i wr => ∃ (k : Nat) (wq : World), wq = wr ∧ k ≤ hs.length ∧ i = .int .i64 k ∧ wr.ownsRow w.heap.size 27 2 u k (((fs.take k).map (·.who)).flatMap mC) ∧ Below w.heap.size w wr) (fun _ i _ => hs.length - (intOf i).toNat)
  case atStart => exact ⟨0, _, rfl, Nat.zero_le _, rfl, World.ownsRow_nil _ _ _ _, Below.refl _ _⟩
  case round =>
    obtain ⟨k, wz, rfl, hk, rfl, hown, B⟩ := hrel
    by_cases hlt : k < hs.length
    · have hd : decide (k < hs.length) = true := by simpa using hlt
      have hi : (k : Int) < (hs.length : Int) := by omega
      have hge : (0 : Int) ≤ (k : Int) := by omega
      obtain ⟨g, off, rfl, hgn, hc⟩ := HP.out k hlt
      have hfk : k < fs.length := by rw [← HL.out]; exact hlt
      obtain ⟨t1, t2, t3, -⟩ := HE.out.get k hlt hfk
      obtain ⟨⟨⟨a, b⟩, ⟨o1, o2, o3⟩, ⟨sA, sN, sK⟩, ⟨i1, i2, i3⟩, ⟨tA, tN, tK⟩, wt⟩, hf⟩ : ∃ f, hs[k] = f := ⟨_, rfl⟩
      rw [hf] at hc t1 t2 t3
      simp only at t1 t2 t3
      have y0 := (B.cell (p := ⟨g, off + k * 11, none⟩) hgn).trans (hc 0 _ rfl)
      have y1 := (B.cell (p := ⟨g, off + k * 11 + 1, none⟩) hgn).trans (hc 1 _ rfl)
      have y2 := (B.cell (p := ⟨g, off + k * 11 + 2, none⟩) hgn).trans (hc 2 _ rfl)
      have y3 := (B.cell (p := ⟨g, off + k * 11 + 3, none⟩) hgn).trans (hc 3 _ rfl)
      have y4 := (B.cell (p := ⟨g, off + k * 11 + 4, none⟩) hgn).trans (hc 4 _ rfl)
      have y5 := (B.cell (p := ⟨g, off + k * 11 + 5, none⟩) hgn).trans (hc 5 _ rfl)
      have y6 := (B.cell (p := ⟨g, off + k * 11 + 6, none⟩) hgn).trans (hc 6 _ rfl)
      have y7 := (B.cell (p := ⟨g, off + k * 11 + 7, none⟩) hgn).trans (hc 7 _ rfl)
      have y8 := (B.cell (p := ⟨g, off + k * 11 + 8, none⟩) hgn).trans (hc 8 _ rfl)
      have y9 := (B.cell (p := ⟨g, off + k * 11 + 9, none⟩) hgn).trans (hc 9 _ rfl)
      have y10 := (B.cell (p := ⟨g, off + k * 11 + 10, none⟩) hgn).trans (hc 10 _ rfl)
      clear hc hf
      have HS : Hid ((fs.take (k + 1)).map (·.who) = (fs.take k).map (·.who) ++ [(a, b)]) := Lib.hid (by rw [List.take_succ_eq_append_getElem hfk, List.map_append, List.map_cons, ← t1]; rfl)
      clear t1 t2 t3
      go_wp2_with (at_builtin; refine append_mems _ rfl _ _ rfl w.heap.size _ _ _ rfl ((hown.alloc _).alloc _) _ _ _ rfl (one_mem _ _ _ _ _ (by simp)) ?c1 ?c2 ?_)
      case c1 => first | omega | (simp; omega)
      case c2 => have := B.size; simp; omega
      intro v' w' hown' hgr
      have B1 := B.alloc B.size (.cells #[.int .i64 a, .int .i64 b, .int .i64 o1, .int .i64 o2, .int .i64 o3, .slice sA sN sK, .int .i64 i1, .int .i64 i2, .int .i64 i3, .slice tA tN tK, .bool wt] 36)
      have B2 := (B1.alloc B1.size (.cells #[.int .i64 a, .int .i64 b] 27)).grown hgr (by have := B.size; simp; omega) (fun k hk => (hown.lt k hk).1)
      go_wp2
      go_roundw
      case rel => exact ⟨k + 1, _, rfl, by omega, by go_num, by rw [HS.out]; simpa using hown', B2⟩
      case measure => simp [intOf]; omega
    · have hd : decide (k < hs.length) = false := by simpa using hlt
      have hkk : fs.take k = fs := List.take_of_length_le (by have := HL.out; omega)
      have hke : k = (fs.map (·.who)).length := by rw [List.length_map, ← HL.out]; omega
      rw [hkk, hke] at hown
      obtain ⟨g', c', n', rfl⟩ : ∃ ao n' cap, _ = Value.slice ao n' cap := by
        rcases hown.2 with ⟨hv, _⟩ | ⟨g, cap, cur, hv, _⟩
        · exact ⟨_, _, _, hv⟩
        · exact ⟨_, _, _, hv⟩
      have HSO := Lib.hid (sortP_any _ _ w.heap.size wz hown HND.out (by rw [List.length_map]; exact hn12) B.size)
      have hpm := sortM_perm HND.out
      have HNS : Hid ((sortM (fs.map (·.who))).Nodup ∧ (sortM (fs.map (·.who))).length ≤ 1000) := Lib.hid ⟨hpm.nodup_iff.2 HND.out, by rw [hpm.length_eq, List.length_map]; omega⟩
      have HOB := Lib.hid (fun g hg => (owns_own hown g hg).1)
      clear hkk hown hke hpm
      go_wp2_with fail
      refine HSO.out.mono ?_
      rintro e W1 ⟨⟨u, rfl⟩, hm, hb⟩
      have BB := B.trans hb
      have HM := Lib.hid hm
      clear hb hm HSO
      go_wp2_with fail
      refine (compact_any _ _ W1 HM.out HNS.out.1 HNS.out.2).mono ?_
      rintro e W2 ⟨rfl, hb⟩
      replace HM := Lib.hid (keeps_mems _ _ _ _ _ _ HM.out hb hb.size)
      replace BB := BB.trans (hb.mono BB.size)
      clear hb
      go_wp2
      go_ret
      exact ⟨_, rfl, HM.out, BB, HOB.out⟩

theorem lv_short (xs : List Sp) : (lv xs).length ≤ xs.length := by
  have := lv_take_le xs xs.length
  rwa [List.take_of_length_le (Nat.le_refl _)] at this
/-- Of the first k of these: the last one of all, and who ought to. -/
def frK (p : Int × Int → Bool) (ms : List (Int × Int)) : Nat → List (Int × Int)
  | 0 => []
  | k + 1 => frK p ms k ++ if decide (k + 1 = ms.length) || p (ms.getD k (0, 0)) then [ms.getD k (0, 0)] else []
theorem frK_cons (p : Int × Int → Bool) (m : Int × Int) (r : List (Int × Int)) : ∀ k, k ≤ r.length → frK p (m :: r) (k + 1) = (if r = [] ∨ p m = true then [m] else []) ++ frK p r k
  | 0, _ => by
    have e : (decide (0 + 1 = (m :: r).length) || p m) = decide (r = [] ∨ p m = true) := by
      rw [Bool.eq_iff_iff]
      cases r <;> simp
    show [] ++ (if decide (0 + 1 = (m :: r).length) || p ((m :: r).getD 0 (0, 0)) then [(m :: r).getD 0 (0, 0)] else []) = _ ++ []
    rw [show (m :: r).getD 0 (0, 0) = m from rfl, e, List.nil_append, List.append_nil]
    by_cases h : r = [] ∨ p m = true
    · rw [if_pos h, decide_eq_true h, if_pos rfl]
    · rw [if_neg h, decide_eq_false h, if_neg (by simp)]
  | k + 1, hk => by
    have ih := frK_cons p m r k (by omega)
    show frK p (m :: r) (k + 1) ++ _ = _ ++ (frK p r k ++ _)
    rw [ih, List.append_assoc]
    congr 2
    have e1 : decide (k + 1 + 1 = (m :: r).length) = decide (k + 1 = r.length) := by
      rw [Bool.eq_iff_iff]; simp
    rw [e1]
    rfl
theorem frK_all (l : List Fl) : ∀ ms : List (Int × Int), frK (drawsO l) ms ms.length = freshO l ms
  | [] => rfl
  | m :: r => by
    show frK (drawsO l) (m :: r) (r.length + 1) = _
    rw [frK_cons _ m r r.length (Nat.le_refl _), frK_all l r]
    rfl
theorem frK_le (p : Int × Int → Bool) (ms : List (Int × Int)) : ∀ k, (frK p ms k).length ≤ k
  | 0 => Nat.le_refl _
  | k + 1 => by
    have := frK_le p ms k
    simp only [frK, List.length_append]
    split <;> simp <;> omega

set_option maxRecDepth 100000 in
set_option maxHeartbeats 8000000 in
theorem freshP_any (v u : Value) (hs : List FH) (fs : List Fl) (ot : Option Tr) (w : World) (hH : FHs w.heap.size w hs [v]) (hE : EachF w.heap.size w hs fs) (hn0 : fs.length ≤ 1000) (hS : Spots w.heap.size w (spo ot) [u]) (ho : (spo ot).length ≤ 100000) :
    Calls Try.prog 12 #[v, u] w fun e W' => ∃ v', e = .returned v' ∧ Mems W'.heap.size W' (freshO fs (lvO ot)) [v'] ∧ Below w.heap.size w W' := by
  have HW := Lib.hid (whoDraw_any v hs fs w hH hE hn0)
  have HS := Lib.hid hS
  have hlm : (lvO ot).length ≤ 100000 := Nat.le_trans (lv_short _) ho
  have HF : Hid (frK (drawsO fs) (lvO ot) (lvO ot).length = freshO fs (lvO ot)) := Lib.hid (frK_all fs _)
  clear hH hE hS
  go_enter Try.func12, Try.ntmps12
  go_wp2_with fail
  refine HW.out.mono ?_
  rintro e W1 ⟨v6, rfl, hm6, B⟩
  replace HS := Lib.hid (keeps_spots _ _ _ _ _ _ HS.out B B.size)
  have HM6 := Lib.hid hm6
  clear hm6 HW
  go_wp2_with fail
  refine (leaves_any _ _ W1 HS.out (by omega)).mono ?_
  rintro e W2 ⟨v7, rfl, hm7, hb⟩
  replace HM6 := Lib.hid (keeps_mems _ _ _ _ _ _ HM6.out hb hb.size)
  replace B := B.trans (hb.mono B.size)
  obtain ⟨ms, hms⟩ : ∃ ms, lvO ot = ms := ⟨_, rfl⟩
  rw [show lv (spo ot) = ms from hms] at hm7
  rw [hms] at hlm HF
  obtain ⟨A, cap, rfl, hlc, hcm, hp⟩ := mems_at hm7
  have HP := Lib.hid hp
  have HM := Lib.hid (drM_mem fs)
  have HMS := Lib.hid hms
  clear hb hm7 hms hp HS hcm
  go_wp2_with fail
  go_loopw [5, 16] (fun u i wr => ∃ (k : Nat) (wq : World), wq = wr ∧ k ≤ ms.length ∧ i = .int .i64 k ∧ wr.ownsRow W2.heap.size 27 2 u (frK (drawsO fs) ms k).length ((frK (drawsO fs) ms k).flatMap mC) ∧ Below W2.heap.size W2 wr) (fun _ i _ => ms.length - (intOf i).toNat)
  case atStart => exact ⟨0, _, rfl, Nat.zero_le _, rfl, World.ownsRow_nil _ _ _ _, Below.refl _ _⟩
  case round =>
    obtain ⟨k, wz, rfl, hk, rfl, hown, Bz⟩ := hrel
    by_cases hlt : k < ms.length
    · have hd : decide (k < ms.length) = true := by simpa using hlt
      have hi : (k : Int) < (ms.length : Int) := by omega
      have hge : (0 : Int) ≤ (k : Int) := by omega
      obtain ⟨g, off, rfl, hgn, hc0, hc1⟩ := HP.out k hlt
      have k0 := (Bz.cell (p := ⟨g, off + k * 2, none⟩) hgn).trans hc0
      have k1 := (Bz.cell (p := ⟨g, off + k * 2 + 1, none⟩) hgn).trans hc1
      have hsn : frK (drawsO fs) ms (k + 1) = frK (drawsO fs) ms k ++ if decide (k + 1 = ms.length) || drawsO fs ms[k] then [ms[k]] else [] := by
        simp only [frK, List.getD_eq_getElem?_getD, List.getElem?_eq_getElem hlt, Option.getD_some]
      obtain ⟨⟨a, b⟩, hf⟩ : ∃ f, ms[k] = f := ⟨_, rfl⟩
      rw [hf] at k0 k1 hsn
      simp only at k0 k1
      have HSN := Lib.hid hsn
      have hll := frK_le (drawsO fs) ms k
      have hwl : IntKind.i64.wrap ((ms.length : Int) - 1) = (ms.length : Int) - 1 := by rw [IntKind.wrap_i64]; omega
      have HMZ := Lib.hid (keeps_mems _ _ _ _ _ _ HM6.out Bz Bz.size)
      clear hc0 hc1 hf hsn
      by_cases hlast : k + 1 = ms.length
      · have hdl : decide ((k : Int) = (ms.length : Int) - 1) = true := decide_eq_true (by omega)
        have HDL : Hid (decide (k + 1 = ms.length) = true) := Lib.hid (decide_eq_true hlast)
        clear HMZ
        go_wp2_with (at_builtin; refine append_mems _ rfl _ _ rfl W2.heap.size _ _ _ rfl ((hown.alloc _).alloc _) _ _ _ rfl (one_mem _ _ _ _ _ (by simp)) ?c1 ?c2 ?_)
        case c1 => first | omega | (simp; omega)
        case c2 => have := Bz.size; simp; omega
        intro v' w' hown' hgr
        have B1 := Bz.alloc Bz.size (.cells #[.int .i64 a, .int .i64 b] 27)
        have B2 := (B1.alloc B1.size (.cells #[.int .i64 a, .int .i64 b] 27)).grown hgr (by have := Bz.size; simp; omega) (fun k hk => (hown.lt k hk).1)
        go_wp2
        go_roundw
        case rel => exact ⟨k + 1, _, rfl, by omega, by go_num, by rw [HSN.out, HDL.out]; simpa using hown', B2⟩
        case measure => simp [intOf]; omega
      · have hdl : decide ((k : Int) = (ms.length : Int) - 1) = false := decide_eq_false (by omega)
        have hel : ¬ (k : Int) = (ms.length : Int) - 1 := by omega
        have HDL : Hid (decide (k + 1 = ms.length) = false) := Lib.hid (decide_eq_false hlast)
        go_wp2_with fail
        obtain ⟨W0, hW0, b5, B0⟩ : ∃ W0, wz.alloc (.cells #[.int .i64 a, .int .i64 b] 27) = W0 ∧ Box W0 wz.heap.size [.int .i64 a, .int .i64 b] ∧ Below wz.heap.size wz W0 := ⟨_, rfl, Box.new wz _ _, below_new _ _⟩
        rw [hW0]
        have hown0 := owns_below hown B0
        have BB := Bz.trans (B0.mono Bz.size)
        have HHA := Lib.hid (has_any _ _ a b W0 (keeps_mems _ _ _ _ _ _ HMZ.out B0 B0.size))
        clear hW0 hown Bz k0 k1 HMZ
        refine HHA.out.mono ?_
        rintro e W3 ⟨rfl, hb⟩
        replace b5 := b5.next hb
        replace hown0 := owns_below hown0 hb
        replace BB := BB.trans (hb.mono BB.size)
        have hz0 := HM.out (a, b)
        clear hb B0 HHA
        cases hz : decide ((a, b) ∈ drM fs)
        · rw [hz] at hz0
          have HZ := Lib.hid hz0
          clear hz0 hz b5
          go_wp2
          go_roundw
          case rel => exact ⟨k + 1, _, rfl, by omega, by go_num, by rw [HSN.out, HDL.out, ← HZ.out]; simpa using hown0, BB⟩
          case measure => simp [intOf]; omega
        · rw [hz] at hz0
          have HZ := Lib.hid hz0
          have q0 := b5.c 0 _ rfl
          have q1 := b5.c 1 _ rfl
          clear hz0 hz
          go_wp2_with (at_builtin; refine append_mems _ rfl _ _ rfl W2.heap.size _ _ _ rfl (hown0.alloc _) _ _ _ rfl (one_mem _ _ _ _ _ (by simp)) ?c1 ?c2 ?_)
          case c1 => first | omega | (simp; omega)
          case c2 => have := BB.size; simp; omega
          intro v' w' hown' hgr
          have B2 := (BB.alloc BB.size (.cells #[.int .i64 a, .int .i64 b] 27)).grown hgr (by have := BB.size; simp; omega) (fun k hk => (hown0.lt k hk).1)
          go_wp2
          go_roundw
          case rel => exact ⟨k + 1, _, rfl, by omega, by go_num, by rw [HSN.out, HDL.out, ← HZ.out]; simpa using hown', B2⟩
          case measure => simp [intOf]; omega
    · have hd : decide (k < ms.length) = false := by simpa using hlt
      have hke : k = ms.length := by omega
      rw [hke, HF.out] at hown
      obtain ⟨g', c', n', rfl⟩ : ∃ ao n' cap, _ = Value.slice ao n' cap := by
        rcases hown.2 with ⟨hv, _⟩ | ⟨g, cap, cur, hv, _⟩
        · exact ⟨_, _, _, hv⟩
        · exact ⟨_, _, _, hv⟩
      have BB := B.trans (Bz.mono B.size)
      clear hke
      go_wp2
      go_ret
      exact ⟨_, rfl, by rw [HMS.out]; exact own_mems hown, BB⟩

end Go.Proofs.Ytkmlnglmecjmeaa
