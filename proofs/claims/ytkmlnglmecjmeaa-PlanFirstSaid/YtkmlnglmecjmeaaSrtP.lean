import Derived.Test.YtkmlnglmecjmeaaPlaS
import Derived.Test.YtkmlnglmecjmeaaCmpC
import Derived.Test.YtkmlnglmecjmeaaSrtC
import Derived.Test.YtkmlnglmecjmeaaTreeA
import Derived.Test.YtkmlnglmecjmeaaPhaseU
import Derived.BigRegion
/- slices.SortFunc of at most 12 members of one's own by layer 15's comparison: they stand in order. Condition: no member twice. -/
namespace Go.Proofs.Ytkmlnglmecjmeaa
open Go Go.RowKit
set_option linter.unusedVariables false

set_option maxRecDepth 100000 in
set_option maxHeartbeats 4000000 in
theorem cmpP_any (a b c d : Int) (w : World) : Calls Try.prog 25 #[vM a b, vM c d] w fun e W' => e = .returned (.int .i64 (cmpM a b c d)) ∧ Below w.heap.size w W' := by
  go_enter Try.func25, Try.ntmps25
  go_wp2_with fail
  obtain ⟨W0, hW0, b2, b3, B⟩ : ∃ W0, (w.alloc (.cells #[.int .i64 a, .int .i64 b] 27)).alloc (.cells #[.int .i64 c, .int .i64 d] 27) = W0 ∧ Box W0 w.heap.size [.int .i64 a, .int .i64 b] ∧ Box W0 (w.heap.size + 1) [.int .i64 c, .int .i64 d] ∧ Below w.heap.size w W0 :=
    ⟨_, rfl, (Box.new w _ _).next (below_new _ _), by have := Box.new (w.alloc (.cells #[.int .i64 a, .int .i64 b] 27)) [.int .i64 c, .int .i64 d] 27; rwa [World.size_alloc] at this, below_new2 _ _ _⟩
  rw [hW0]
  clear hW0
  refine (less_any a b c d W0).mono ?_
  rintro e W1 ⟨rfl, hb⟩
  replace b2 := b2.next hb
  replace b3 := b3.next hb
  replace B := B.trans (hb.mono B.size)
  clear hb
  cases h1 : lessM a b c d
  · have H1 := Lib.hid h1
    clear h1
    have q0 := b2.c 0 _ rfl
    have q1 := b2.c 1 _ rfl
    have r0 := b3.c 0 _ rfl
    have r1 := b3.c 1 _ rfl
    go_wp2_with fail
    refine (less_any c d a b W1).mono ?_
    rintro e W2 ⟨rfl, hb⟩
    replace B := B.trans (hb.mono B.size)
    clear hb q0 q1 r0 r1 b2 b3
    cases h2 : lessM c d a b
    · have H2 : Hid (cmpM a b c d = 0) := Lib.hid (by unfold cmpM; rw [H1.out, h2]; rfl)
      clear h2
      go_wp2
      go_ret
      exact ⟨by rw [H2.out]; rfl, B⟩
    · have H2 : Hid (cmpM a b c d = 1) := Lib.hid (by unfold cmpM; rw [H1.out, h2]; rfl)
      clear h2
      go_wp2
      go_ret
      exact ⟨by rw [H2.out]; rfl, B⟩
  · have H1 : Hid (cmpM a b c d = -1) := Lib.hid (by unfold cmpM; rw [h1]; rfl)
    clear h1
    go_wp2
    go_ret
    exact ⟨by rw [H1.out]; rfl, B⟩

theorem mc_at {l : List (Int × Int)} {j : Nat} {x : Int × Int} (h : l[j]? = some x) : (l.flatMap mC)[j * 2]? = some (.int .i64 x.1) ∧ (l.flatMap mC)[j * 2 + 1]? = some (.int .i64 x.2) := by
  obtain ⟨hj, rfl⟩ := List.getElem?_eq_some_iff.1 h
  exact ⟨flat_get (enc := mC) (s := 2) (by decide) (fun _ => rfl) l j hj 0 (by decide), flat_get (enc := mC) (s := 2) (by decide) (fun _ => rfl) l j hj 1 (by decide)⟩
theorem set_swap4 (a b : List Value) (p0 p1 q0 q1 : Value) : ∀ k, a.length = k → ((((a ++ p0 :: p1 :: q0 :: q1 :: b).set (k + 2) p0).set (k + 2 + 1) p1).set k q0).set (k + 1) q1 = a ++ q0 :: q1 :: p0 :: p1 :: b := by
  induction a with
  | nil => rintro k rfl; rfl
  | cons c a ih =>
    rintro k rfl
    simp
theorem mc_len (l : List (Int × Int)) : (l.flatMap mC).length = l.length * 2 := flat_len (enc := mC) (fun _ => rfl) l
theorem at3m_swap (a : List (Int × Int)) (x : Int × Int) (j : Nat) (r : List (Int × Int)) (h : j < a.length) (q : Nat) (hq : j + 1 = q) :
    ((((((at3m a x q r).flatMap mC).set (q * 2) (.int .i64 a[j].1)).set (q * 2 + 1) (.int .i64 a[j].2)).set (j * 2) (.int .i64 x.1)).set (j * 2 + 1) (.int .i64 x.2)) = (at3m a x j r).flatMap mC := by
  subst hq
  have e1 : at3m a x (j + 1) r = a.take j ++ a[j] :: x :: (a.drop (j + 1) ++ r) := by
    unfold at3m
    rw [List.take_succ_eq_append_getElem h]
    simp only [List.append_assoc, List.cons_append, List.nil_append]
  have e2 : at3m a x j r = a.take j ++ x :: a[j] :: (a.drop (j + 1) ++ r) := by
    unfold at3m
    rw [List.drop_eq_getElem_cons h]
    rfl
  rw [e1, e2, List.flatMap_append, List.flatMap_append, List.flatMap_cons, List.flatMap_cons, List.flatMap_cons, List.flatMap_cons, show (j + 1) * 2 = j * 2 + 2 by omega]
  exact set_swap4 _ _ _ _ _ _ (j * 2) (by rw [mc_len, List.length_take]; omega)

set_option maxRecDepth 100000 in
set_option maxHeartbeats 16000000 in
theorem insP_any (A : Option Addr) (g n cap n₀ : Nat) (ms : List (Int × Int)) (w0 w : World) (hA : 0 < n → A = some ⟨g, 0, none⟩) (hbx : Box w g (ms.flatMap mC)) (hg : n₀ ≤ g) (hn : ms.length = n) (hn8 : n ≤ 1000) (hd : ms.Nodup) (B : Below n₀ w0 w) (hs0 : n₀ ≤ w0.heap.size) :
    Calls Try.prog 52 #[.slice A n cap, .int .i64 0, .int .i64 (n : Int), .func (.func 25) #[] #[]] w fun e W' => (∃ v, e = .returned v) ∧ Box W' g ((sortM ms).flatMap mC) ∧ Below n₀ w0 W' := by
  have HNN := Lib.hid hn
  have HAA := Lib.hid hA
  have HND := Lib.hid hd
  have HE0 : Hid (Box w g ((sortM (ms.take 1) ++ ms.drop 1).flatMap mC)) := Lib.hid (by rw [sortM_one]; exact hbx)
  clear hn hA hd hbx
  go_enter Try.func52, Try.ntmps52
  go_wp2_with fail
  go_loopw [8, 9] (fun iv _ wr => ∃ (i : Nat) (wq : World), wq = wr ∧ 0 < i ∧ i ≤ n + 1 ∧ iv = .int .i64 (i : Int) ∧ Box wr g ((sortM (ms.take i) ++ ms.drop i).flatMap mC) ∧ Below n₀ w0 wr) (fun iv _ _ => n + 1 - (intOf iv).toNat)
  case atStart => exact ⟨1, _, rfl, by decide, by omega, rfl, HE0.out, B⟩
  case round =>
    clear B HE0
    obtain ⟨i, wr, rfl, hi0, hi1, rfl, hbx, B⟩ := hrel
    by_cases hlt : i < n
    · have hd : decide (i < n) = true := decide_eq_true hlt
      have hgA := HAA.out (by omega)
      subst hgA
      have hix : i < ms.length := by have := HNN.out; omega
      obtain ⟨srt, hsl, -⟩ := sortM_facts ms HND.out i (by omega)
      rw [sortM_split HND.out hix] at hbx
      have HI := Lib.hid (fun j hk => sortM_ins (j := j) HND.out hix hk)
      obtain ⟨l, hle⟩ : ∃ l, sortM (ms.take i) = l := ⟨_, rfl⟩
      obtain ⟨x, hxe⟩ : ∃ x, ms[i] = x := ⟨_, rfl⟩
      obtain ⟨rt, hrt⟩ : ∃ rt, ms.drop (i + 1) = rt := ⟨_, rfl⟩
      have hrl : l.length + 1 + rt.length = n := by rw [← hle, hsl, ← hrt, List.length_drop]; have := HNN.out; omega
      rw [hle, hxe, hrt] at hbx
      rw [hle] at srt hsl HI
      rw [hxe, hrt] at HI
      obtain ⟨x0, x1⟩ := x
      have HS := Lib.hid srt
      have HKL := Lib.hid (kM_le (x0, x1) l)
      have HLen := Lib.hid (fun j h => at3m_len l (x0, x1) j rt h)
      have HHN := Lib.hid hrl
      have HSL := Lib.hid hsl
      have HRT := Lib.hid hrt
      clear srt hsl hxe hle hrt hrl
      go_wp2_with fail
      go_loopw [9] (fun jv wz => ∃ (j : Nat) (wq : World), wq = wz ∧ j ≤ i ∧ kM (x0, x1) l ≤ j ∧ jv = .int .i64 (j : Int) ∧ Box wz g ((at3m l (x0, x1) j rt).flatMap mC) ∧ Below n₀ w0 wz) (fun jv _ => (intOf jv).toNat)
      case atStart => exact ⟨i, _, rfl, Nat.le_refl _, by have := HKL.out; have := HSL.out; omega, rfl, hbx, B⟩
      case round =>
        clear hbx B
        obtain ⟨j, wz, rfl, hj, hkj, rfl, hbx, B⟩ := hrel
        cases j with
        | zero =>
          have HEX := Lib.hid (HI.out 0 (by omega))
          obtain ⟨jv, hjv⟩ : ∃ jv : Int, ((0 : Nat) : Int) = jv := ⟨_, rfl⟩
          have hgt : decide (0 < jv) = false := by rw [← hjv]; rfl
          have hgw : g < wz.heap.size := World.block_lt_of_cell? wz ⟨g, 0, none⟩ (hbx.c 0 _ (mc_at (at3m_here l (x0, x1) 0 rt (by omega))).1)
          rw [hjv]
          clear hjv hkj
          go_wp2_with fail
          refine wp_region_results (fun r i => ([.int .i64 jv, .int .i64 0, .bool false, .bool false, undef, undef, undef, undef, undef, undef, undef, undef, undef, undef, undef, undef, .bool false] : List Value).getD i undef) [] [0, 0, 0, 0, 0, 0, 0, 0, 0, 0, 0, 0, 0, 0, 0, 0, 0] (fun r q w' => (Below wz.heap.size wz w')) (by kernel_rfl) (by kernel_rfl) (fun r => ⟨rfl, rfl, rfl, Nat.le_refl _, fun _ _ => rfl⟩) ?_ ?_
          · refine ObsR_of_ends (by kernel_rfl) ?_
            intro r Fr hEA
            refine ⟨?_, ?_, ?_, ?_, ?_, ?_, ?_, ?_, ?_, ?_, ?_, ?_, ?_, ?_, ?_, ?_, ?_, trivial⟩
            · exact obR_move _ rfl (want_none rfl) (by kernel_rfl) (eval_out hEA (d := 9) (by kernel_rfl))
            · exact obR_move _ rfl (want_none rfl) (by kernel_rfl) (eval_out hEA (d := 1) (by kernel_rfl))
            · refine obR_val (want_none rfl) (by kernel_rfl) (fun ph w' hp hpm hw => ?_)
              have e18 : Fr.tmps[18]? = some (.int .i64 jv) := hEA.dst 0 _ 18 rfl rfl; have e19 : Fr.tmps[19]? = some (.int .i64 0) := hEA.dst 1 _ 19 rfl rfl; simp [execOp, e18, e19, hgt, go_sem]
            · exact obR_move _ rfl (want_none rfl) (by kernel_rfl) (eval_dst hEA (j := 2) rfl rfl)
            · exact obR_skip (want_is hEA (g := 3) (x := false) (b := true) rfl rfl rfl rfl) (by kernel_rfl) rfl
            · exact obR_skip (want_is hEA (g := 3) (x := false) (b := true) rfl rfl rfl rfl) (by kernel_rfl) rfl
            · exact obR_skip (want_is hEA (g := 3) (x := false) (b := true) rfl rfl rfl rfl) (by kernel_rfl) rfl
            · exact obR_skip (want_is hEA (g := 3) (x := false) (b := true) rfl rfl rfl rfl) (by kernel_rfl) rfl
            · exact obR_skip (want_is hEA (g := 3) (x := false) (b := true) rfl rfl rfl rfl) (by kernel_rfl) rfl
            · exact obR_skip (want_is hEA (g := 3) (x := false) (b := true) rfl rfl rfl rfl) (by kernel_rfl) rfl
            · exact obR_skip (want_is hEA (g := 3) (x := false) (b := true) rfl rfl rfl rfl) (by kernel_rfl) rfl
            · exact obR_skip (want_is hEA (g := 3) (x := false) (b := true) rfl rfl rfl rfl) (by kernel_rfl) rfl
            · exact obR_skip (want_is hEA (g := 3) (x := false) (b := true) rfl rfl rfl rfl) (by kernel_rfl) rfl
            · exact obR_skip (want_is hEA (g := 3) (x := false) (b := true) rfl rfl rfl rfl) (by kernel_rfl) rfl
            · exact obR_skip (want_is hEA (g := 3) (x := false) (b := true) rfl rfl rfl rfl) (by kernel_rfl) rfl
            · exact obR_skip (want_is hEA (g := 3) (x := false) (b := true) rfl rfl rfl rfl) (by kernel_rfl) rfl
            · refine obR_val (want_none rfl) (by kernel_rfl) (fun ph w' hp hpm hw => ?_)
              have e21 : Fr.tmps[21]? = some (.bool false) := hEA.dst 3 _ 21 rfl rfl; have e33 : Fr.tmps[33]? = some (undef) := hEA.dst 15 _ 33 rfl rfl; simp [execOp, e21, e33, go_sem]
          · intro r w' hw
            simp only [laid, Act.put, List.setIfInBounds_toArray, List.set_cons_succ, List.set_cons_zero, List.getD_cons_succ, List.getD_cons_zero, Nat.zero_add, Nat.reduceAdd]
            obtain ⟨wy, hwy⟩ : ∃ wy, w' = wy := ⟨_, rfl⟩
            rw [hwy] at hw
            rw [hwy]
            have hbx2 := hbx.below hw hgw
            have B2 := B.trans (hw.mono (Nat.le_trans hs0 B.size))
            clear hw hwy hbx B
            go_wp2
            go_roundw
            case rel => exact ⟨i + 1, _, rfl, by omega, by omega, by go_num, by rw [HRT.out, ← HEX.out]; exact hbx2, B2⟩
            case measure => simp [intOf]; omega
        | succ p =>
          obtain ⟨q, hq⟩ : ∃ q, p + 1 = q := ⟨_, rfl⟩
          have hpl : p < l.length := by have := HSL.out; omega
          have hql : q ≤ l.length := by omega
          rw [hq] at hbx hkj
          have hh := mc_at (at3m_here l (x0, x1) q rt hql)
          have hv := mc_at (show (at3m l (x0, x1) q rt)[p]? = some l[p] by rw [← hq]; exact at3m_prev l (x0, x1) p rt hpl)
          have hgw : g < wz.heap.size := World.block_lt_of_cell? wz ⟨g, q * 2, none⟩ (hbx.c (q * 2) _ hh.1)
          have k0 := hbx.c (q * 2) _ hh.1
          have k1 := hbx.c (q * 2 + 1) _ hh.2
          have k2 := hbx.c (p * 2) _ hv.1
          have k3 := hbx.c (p * 2 + 1) _ hv.2
          have hle2 : ((at3m l (x0, x1) q rt).flatMap mC).length = n * 2 := by rw [mc_len, HLen.out q hql, HHN.out]
          have HSW := Lib.hid (at3m_swap l (x0, x1) p rt hpl q hq)
          have hcn0 := srtM_at (x := (x0, x1)) HS.out hpl
          obtain ⟨⟨y0, y1⟩, hye⟩ : ∃ y, l[p] = y := ⟨_, rfl⟩
          rw [hye] at k2 k3 HSW hcn0 hv
          simp only at k0 k1 k2 k3 HSW hcn0 hh hv
          have HHV := Lib.hid (And.intro hh hv)
          have HL2 := Lib.hid hle2
          have hcn := cmpM_neg x0 x1 y0 y1
          rw [hcn0] at hcn
          have hgt : decide (0 < q) = true := decide_eq_true (by omega)
          have hgt2 : (0 : Int) < (q : Int) := by omega
          have hwq : IntKind.i64.wrap ((q : Int) - 1) = (p : Int) := by rw [IntKind.wrap_i64]; omega
          have hwq2 : (q : Int) - 1 = (p : Int) := by omega
          have hiq : (q : Int) < (n : Int) := by omega
          have hgq : (0 : Int) ≤ (q : Int) := by omega
          have hip : (p : Int) < (n : Int) := by omega
          have hgp : (0 : Int) ≤ (p : Int) := by omega
          have hqn : q < n := by omega
          have hpn : p < n := by omega
          by_cases hkp : kM (x0, x1) l ≤ p
          · rw [decide_eq_true hkp] at hcn
            have hpi : p ≤ i := by omega
            rw [hq]
            clear hcn0 hye hkj hq hh hv hle2
            go_wp2_with fail
            refine wp_region_results (fun r i => ([.int .i64 (q : Int), .int .i64 0, .bool true, .bool true, .func (.func 25) #[] #[], .slice (some ⟨g, 0, none⟩) n cap, .int .i64 (q : Int), .pointer (some ⟨g, q * 2, none⟩), .agg #[.int .i64 x0, .int .i64 x1], .slice (some ⟨g, 0, none⟩) n cap, .int .i64 (q : Int), .int .i64 (p : Int), .pointer (some ⟨g, p * 2, none⟩), .agg #[.int .i64 y0, .int .i64 y1], .int .i64 (cmpM x0 x1 y0 y1), .bool true, .bool true] : List Value).getD i undef) [14] [0, 0, 0, 0, 0, 0, 0, 0, 0, 0, 0, 0, 0, 0, 0, 1, 1] (fun r q w' => (Below wz.heap.size wz w')) (by kernel_rfl) (by kernel_rfl) (fun r => ⟨rfl, rfl, rfl, Nat.le_refl _, fun _ _ => rfl⟩) ?_ ?_
            · refine ObsR_of_ends (by kernel_rfl) ?_
              intro r Fr hEA
              refine ⟨?_, ?_, ?_, ?_, ?_, ?_, ?_, ?_, ?_, ?_, ?_, ?_, ?_, ?_, ?_, ?_, ?_, trivial⟩
              · exact obR_move _ rfl (want_none rfl) (by kernel_rfl) (eval_out hEA (d := 9) (by kernel_rfl))
              · exact obR_move _ rfl (want_none rfl) (by kernel_rfl) (eval_out hEA (d := 1) (by kernel_rfl))
              · refine obR_val (want_none rfl) (by kernel_rfl) (fun ph w' hp hpm hw => ?_)
                have e18 : Fr.tmps[18]? = some (.int .i64 (q : Int)) := hEA.dst 0 _ 18 rfl rfl; have e19 : Fr.tmps[19]? = some (.int .i64 0) := hEA.dst 1 _ 19 rfl rfl; simp [execOp, e18, e19, hgt, go_sem]
              · exact obR_move _ rfl (want_none rfl) (by kernel_rfl) (eval_dst hEA (j := 2) rfl rfl)
              · exact obR_move _ rfl (want_is hEA (g := 3) (x := true) (b := true) rfl rfl rfl rfl) (by kernel_rfl) (eval_out hEA (d := 3) (by kernel_rfl))
              · exact obR_move _ rfl (want_is hEA (g := 3) (x := true) (b := true) rfl rfl rfl rfl) (by kernel_rfl) (eval_out hEA (d := 0) (by kernel_rfl))
              · exact obR_move _ rfl (want_is hEA (g := 3) (x := true) (b := true) rfl rfl rfl rfl) (by kernel_rfl) (eval_out hEA (d := 9) (by kernel_rfl))
              · refine obR_val (want_is hEA (g := 3) (x := true) (b := true) rfl rfl rfl rfl) (by kernel_rfl) (fun ph w' hp hpm hw => ?_)
                have e23 : Fr.tmps[23]? = some (.slice (some ⟨g, 0, none⟩) n cap) := hEA.dst 5 _ 23 rfl rfl; have e24 : Fr.tmps[24]? = some (.int .i64 (q : Int)) := hEA.dst 6 _ 24 rfl rfl; simp [execOp, e23, e24, hiq, hgq, go_sem]
              · refine obR_val (want_is hEA (g := 3) (x := true) (b := true) rfl rfl rfl rfl) (by kernel_rfl) (fun ph w' hp hpm hw => ?_)
                have hc0 := (hw.cell (p := ⟨g, q * 2, none⟩) hgw).trans k0
                have hc1 := (hw.cell (p := ⟨g, q * 2 + 1, none⟩) hgw).trans k1
                have e25 : Fr.tmps[25]? = some (.pointer (some ⟨g, q * 2, none⟩)) := hEA.dst 7 _ 25 rfl rfl; simp [execOp, e25, hc0, hc1, go_sem]
              · exact obR_move _ rfl (want_is hEA (g := 3) (x := true) (b := true) rfl rfl rfl rfl) (by kernel_rfl) (eval_out hEA (d := 0) (by kernel_rfl))
              · exact obR_move _ rfl (want_is hEA (g := 3) (x := true) (b := true) rfl rfl rfl rfl) (by kernel_rfl) (eval_out hEA (d := 9) (by kernel_rfl))
              · refine obR_val (want_is hEA (g := 3) (x := true) (b := true) rfl rfl rfl rfl) (by kernel_rfl) (fun ph w' hp hpm hw => ?_)
                have e28 : Fr.tmps[28]? = some (.int .i64 (q : Int)) := hEA.dst 10 _ 28 rfl rfl; simp [execOp, e28, hwq, go_sem]
              · refine obR_val (want_is hEA (g := 3) (x := true) (b := true) rfl rfl rfl rfl) (by kernel_rfl) (fun ph w' hp hpm hw => ?_)
                have e27 : Fr.tmps[27]? = some (.slice (some ⟨g, 0, none⟩) n cap) := hEA.dst 9 _ 27 rfl rfl; have e29 : Fr.tmps[29]? = some (.int .i64 (p : Int)) := hEA.dst 11 _ 29 rfl rfl; simp [execOp, e27, e29, hip, hgp, go_sem]
              · refine obR_val (want_is hEA (g := 3) (x := true) (b := true) rfl rfl rfl rfl) (by kernel_rfl) (fun ph w' hp hpm hw => ?_)
                have hc0 := (hw.cell (p := ⟨g, p * 2, none⟩) hgw).trans k2
                have hc1 := (hw.cell (p := ⟨g, p * 2 + 1, none⟩) hgw).trans k3
                have e30 : Fr.tmps[30]? = some (.pointer (some ⟨g, p * 2, none⟩)) := hEA.dst 12 _ 30 rfl rfl; simp [execOp, e30, hc0, hc1, go_sem]
              · refine obR_call (q := 0) (f := 25) (args := #[.agg #[.int .i64 x0, .int .i64 x1], .agg #[.int .i64 y0, .int .i64 y1]]) (want_is hEA (g := 3) (x := true) (b := true) rfl rfl rfl rfl) (by kernel_rfl) (fun w' => by have e22 : Fr.tmps[22]? = some (.func (.func 25) #[] #[]) := hEA.dst 4 _ 22 rfl rfl; have e26 : Fr.tmps[26]? = some (.agg #[.int .i64 x0, .int .i64 x1]) := hEA.dst 8 _ 26 rfl rfl; have e31 : Fr.tmps[31]? = some (.agg #[.int .i64 y0, .int .i64 y1]) := hEA.dst 13 _ 31 rfl rfl; simp [e22, e26, e31, go_sem]) ?_
                intro w' hw
                refine (cmpP_any x0 x1 y0 y1 w').mono ?_
                rintro e w2 ⟨rfl, hb⟩
                exact ⟨_, rfl, fun r' hr hv => ⟨rfl, hw.trans (hb.mono hw.size)⟩⟩
              · refine obR_val (want_is hEA (g := 3) (x := true) (b := true) rfl rfl rfl rfl) (by kernel_rfl) (fun ph w' hp hpm hw => ?_)
                have e32 : Fr.tmps[32]? = some (.int .i64 (cmpM x0 x1 y0 y1)) := hEA.dst 14 _ 32 rfl rfl; simp [execOp, e32, hcn, go_sem]
              · refine obR_val (want_none rfl) (by kernel_rfl) (fun ph w' hp hpm hw => ?_)
                have e21 : Fr.tmps[21]? = some (.bool true) := hEA.dst 3 _ 21 rfl rfl; have e33 : Fr.tmps[33]? = some (.bool true) := hEA.dst 15 _ 33 rfl rfl; simp [execOp, e21, e33, go_sem]
            · intro r w' hw
              simp only [laid, Act.put, List.setIfInBounds_toArray, List.set_cons_succ, List.set_cons_zero, List.getD_cons_succ, List.getD_cons_zero, Nat.zero_add, Nat.reduceAdd]
              obtain ⟨wy, hwy⟩ : ∃ wy, w' = wy := ⟨_, rfl⟩
              rw [hwy] at hw
              rw [hwy]
              have hbx2 := hbx.below hw hgw
              have B2 := B.trans (hw.mono (Nat.le_trans hs0 B.size))
              clear hw hwy hbx B
              clear k0 k1 k2 k3
              obtain ⟨wd, hwd⟩ : ∃ wd, wy.drew = wd := ⟨_, rfl⟩
              have hby : Box wd g ((at3m l (x0, x1) q rt).flatMap mC) := by rw [← hwd]; exact hbx2.keep rfl
              have BY : Below n₀ w0 wd := by rw [← hwd]; exact B2.trans ⟨rfl, rfl, rfl, Nat.le_refl _, fun _ _ => rfl⟩
              have d0 := hby.c (q * 2) _ HHV.out.1.1
              have d1 := hby.c (q * 2 + 1) _ HHV.out.1.2
              have d2 := hby.c (p * 2) _ HHV.out.2.1
              have d3 := hby.c (p * 2 + 1) _ HHV.out.2.2
              have f0 := hby.f (q * 2) (by rw [HL2.out]; omega)
              have f1 := hby.f (q * 2 + 1) (by rw [HL2.out]; omega)
              obtain ⟨V1, hV1⟩ : ∃ V, (wd.setCell ⟨g, q * 2, none⟩ (.int .i64 y0)).setCell ⟨g, q * 2 + 1, none⟩ (.int .i64 y1) = V := ⟨_, rfl⟩
              have hb1 : Box V1 g ((((at3m l (x0, x1) q rt).flatMap mC).set (q * 2) (.int .i64 y0)).set (q * 2 + 1) (.int .i64 y1)) := by rw [← hV1]; exact (hby.put _ _).put _ _
              have d4 := hb1.c (p * 2) (.int .i64 y0) (by rw [List.getElem?_set_ne (by omega), List.getElem?_set_ne (by omega)]; exact HHV.out.2.1)
              have d5 := hb1.c (p * 2 + 1) (.int .i64 y1) (by rw [List.getElem?_set_ne (by omega), List.getElem?_set_ne (by omega)]; exact HHV.out.2.2)
              have f4 := hb1.f (p * 2) (by rw [List.length_set, List.length_set, HL2.out]; omega)
              have f5 := hb1.f (p * 2 + 1) (by rw [List.length_set, List.length_set, HL2.out]; omega)
              obtain ⟨V2, hV2⟩ : ∃ V, (V1.setCell ⟨g, p * 2, none⟩ (.int .i64 x0)).setCell ⟨g, p * 2 + 1, none⟩ (.int .i64 x1) = V := ⟨_, rfl⟩
              have hbx3 : Hid (Box V2 g ((at3m l (x0, x1) p rt).flatMap mC)) := Lib.hid (by
                have h := (hb1.put (p * 2) (.int .i64 x0)).put (p * 2 + 1) (.int .i64 x1)
                rw [HSW.out, hV2] at h
                exact h)
              have B3 : Hid (Below n₀ w0 V2) := Lib.hid (by
                rw [← hV2, ← hV1]
                exact (((BY.setCell (p := ⟨g, q * 2, none⟩) hg _).setCell (p := ⟨g, q * 2 + 1, none⟩) hg _).setCell (p := ⟨g, p * 2, none⟩) hg _).setCell (p := ⟨g, p * 2 + 1, none⟩) hg _)
              clear hbx2 B2 hby BY hb1
              go_wp2_with fail
              refine wp_region_upto (fun i => ([.slice (some ⟨g, 0, none⟩) n cap, .int .i64 (q : Int), .slice (some ⟨g, 0, none⟩) n cap, .int .i64 (q : Int), .int .i64 (p : Int), .slice (some ⟨g, 0, none⟩) n cap, .int .i64 (q : Int), .int .i64 (p : Int), .pointer (some ⟨g, p * 2, none⟩), .agg #[.int .i64 y0, .int .i64 y1], .slice (some ⟨g, 0, none⟩) n cap, .int .i64 (q : Int), .pointer (some ⟨g, q * 2, none⟩), .agg #[.int .i64 x0, .int .i64 x1], .pointer (some ⟨g, q * 2, none⟩), undef, .pointer (some ⟨g, p * 2, none⟩), undef] : List Value).getD i undef) [15, 17] [0, 0, 0, 0, 0, 0, 0, 0, 0, 0, 0, 0, 0, 0, 0, 0, 0, 1] [2, 2, 2, 2, 2, 2, 2, 2, 2, 0, 2, 2, 2, 0, 2, 2, 2, 2] (fun q' w' => (q' = 0 → w' = wd) ∧ (q' = 1 → w' = V1) ∧ (q' = 2 → w' = V2)) (by kernel_rfl) (by kernel_rfl) (by kernel_rfl) (⟨fun _ => hwd, fun h => absurd h (by decide), fun h => absurd h (by decide)⟩) ?_ ?_
              · refine ObsU_of_ends (by kernel_rfl) ?_
                intro Fr hEA
                refine ⟨?_, ?_, ?_, ?_, ?_, ?_, ?_, ?_, ?_, ?_, ?_, ?_, ?_, ?_, ?_, ?_, ?_, ?_, trivial⟩
                · exact obU_move _ rfl (want_none rfl) (by kernel_rfl) (eval_out hEA (d := 0) (by kernel_rfl))
                · exact obU_move _ rfl (want_none rfl) (by kernel_rfl) (eval_out hEA (d := 9) (by kernel_rfl))
                · exact obU_move _ rfl (want_none rfl) (by kernel_rfl) (eval_out hEA (d := 0) (by kernel_rfl))
                · exact obU_move _ rfl (want_none rfl) (by kernel_rfl) (eval_out hEA (d := 9) (by kernel_rfl))
                · refine obU_val (want_none rfl) (by kernel_rfl) (fun ph w' hp hpm hw => ?_)
                  have e40 : Fr.tmps[40]? = some (.int .i64 (q : Int)) := hEA.dst 3 _ 40 rfl rfl; simp [execOp, e40, hwq, go_sem]
                · exact obU_move _ rfl (want_none rfl) (by kernel_rfl) (eval_out hEA (d := 0) (by kernel_rfl))
                · exact obU_move _ rfl (want_none rfl) (by kernel_rfl) (eval_out hEA (d := 9) (by kernel_rfl))
                · refine obU_val (want_none rfl) (by kernel_rfl) (fun ph w' hp hpm hw => ?_)
                  have e43 : Fr.tmps[43]? = some (.int .i64 (q : Int)) := hEA.dst 6 _ 43 rfl rfl; simp [execOp, e43, hwq, go_sem]
                · refine obU_val (want_none rfl) (by kernel_rfl) (fun ph w' hp hpm hw => ?_)
                  have e42 : Fr.tmps[42]? = some (.slice (some ⟨g, 0, none⟩) n cap) := hEA.dst 5 _ 42 rfl rfl; have e44 : Fr.tmps[44]? = some (.int .i64 (p : Int)) := hEA.dst 7 _ 44 rfl rfl; simp [execOp, e42, e44, hip, hgp, go_sem]
                · refine obU_val (want_none rfl) (by kernel_rfl) (fun ph w' hp hpm hw => ?_)
                  have hc0 := show w'.cell? ⟨g, p * 2, none⟩ = _ from (congrArg (fun z => World.cell? z ⟨g, p * 2, none⟩) (hw.1 (Nat.le_zero.1 (show ph ≤ 0 from hpm)))).trans d2
                  have hc1 := show w'.cell? ⟨g, p * 2 + 1, none⟩ = _ from (congrArg (fun z => World.cell? z ⟨g, p * 2 + 1, none⟩) (hw.1 (Nat.le_zero.1 (show ph ≤ 0 from hpm)))).trans d3
                  have e45 : Fr.tmps[45]? = some (.pointer (some ⟨g, p * 2, none⟩)) := hEA.dst 8 _ 45 rfl rfl; simp [execOp, e45, hc0, hc1, go_sem]
                · exact obU_move _ rfl (want_none rfl) (by kernel_rfl) (eval_out hEA (d := 0) (by kernel_rfl))
                · exact obU_move _ rfl (want_none rfl) (by kernel_rfl) (eval_out hEA (d := 9) (by kernel_rfl))
                · refine obU_val (want_none rfl) (by kernel_rfl) (fun ph w' hp hpm hw => ?_)
                  have e47 : Fr.tmps[47]? = some (.slice (some ⟨g, 0, none⟩) n cap) := hEA.dst 10 _ 47 rfl rfl; have e48 : Fr.tmps[48]? = some (.int .i64 (q : Int)) := hEA.dst 11 _ 48 rfl rfl; simp [execOp, e47, e48, hiq, hgq, go_sem]
                · refine obU_val (want_none rfl) (by kernel_rfl) (fun ph w' hp hpm hw => ?_)
                  have hc0 := show w'.cell? ⟨g, q * 2, none⟩ = _ from (congrArg (fun z => World.cell? z ⟨g, q * 2, none⟩) (hw.1 (Nat.le_zero.1 (show ph ≤ 0 from hpm)))).trans d0
                  have hc1 := show w'.cell? ⟨g, q * 2 + 1, none⟩ = _ from (congrArg (fun z => World.cell? z ⟨g, q * 2 + 1, none⟩) (hw.1 (Nat.le_zero.1 (show ph ≤ 0 from hpm)))).trans d1
                  have e49 : Fr.tmps[49]? = some (.pointer (some ⟨g, q * 2, none⟩)) := hEA.dst 12 _ 49 rfl rfl; simp [execOp, e49, hc0, hc1, go_sem]
                · refine obU_val (want_none rfl) (by kernel_rfl) (fun ph w' hp hpm hw => ?_)
                  have e37 : Fr.tmps[37]? = some (.slice (some ⟨g, 0, none⟩) n cap) := hEA.dst 0 _ 37 rfl rfl; have e38 : Fr.tmps[38]? = some (.int .i64 (q : Int)) := hEA.dst 1 _ 38 rfl rfl; simp [execOp, e37, e38, hiq, hgq, go_sem]
                · refine obU_store (q := 0) rfl (want_none rfl) (by kernel_rfl) (fun w' hw => ?_)
                  have e51 : Fr.tmps[51]? = some (.pointer (some ⟨g, q * 2, none⟩)) := hEA.dst 14 _ 51 rfl rfl; have e46 : Fr.tmps[46]? = some (.agg #[.int .i64 y0, .int .i64 y1]) := hEA.dst 9 _ 46 rfl rfl; 
                  have hwe := hw.1 rfl
                  subst hwe
                  refine ⟨V1, by rw [← hV1]; simp [execOp, e51, e46, d0, d1, f0, f1, go_sem], fun h => absurd h (by decide), fun _ => rfl, fun h => absurd h (by decide)⟩
                · refine obU_val (want_none rfl) (by kernel_rfl) (fun ph w' hp hpm hw => ?_)
                  have e39 : Fr.tmps[39]? = some (.slice (some ⟨g, 0, none⟩) n cap) := hEA.dst 2 _ 39 rfl rfl; have e41 : Fr.tmps[41]? = some (.int .i64 (p : Int)) := hEA.dst 4 _ 41 rfl rfl; simp [execOp, e39, e41, hip, hgp, go_sem]
                · refine obU_store (q := 1) rfl (want_none rfl) (by kernel_rfl) (fun w' hw => ?_)
                  have e52 : Fr.tmps[52]? = some (.pointer (some ⟨g, p * 2, none⟩)) := hEA.dst 16 _ 52 rfl rfl; have e50 : Fr.tmps[50]? = some (.agg #[.int .i64 x0, .int .i64 x1]) := hEA.dst 13 _ 50 rfl rfl; 
                  have hwe := hw.2.1 rfl
                  subst hwe
                  refine ⟨V2, by rw [← hV2]; simp [execOp, e52, e50, d4, d5, f4, f5, go_sem], fun h => absurd h (by decide), fun h => absurd h (by decide), fun _ => rfl⟩
              · intro w' hw
                simp only [laid, Act.put, List.setIfInBounds_toArray, List.set_cons_succ, List.set_cons_zero, List.getD_cons_succ, List.getD_cons_zero, Nat.zero_add, Nat.reduceAdd]
                have hwe := hw.2.2 rfl
                subst hwe
                clear hV1 hV2 hwd d0 d1 d2 d3 d4 d5 f0 f1 f4 f5
                go_wp2
                go_roundw
                case rel => exact ⟨p, _, rfl, hpi, hkp, by go_num, hbx3.out, B3.out⟩
                case measure => simp [intOf]; omega
          · rw [decide_eq_false hkp] at hcn
            have HEX := Lib.hid (HI.out q (by omega))
            rw [hq]
            clear hcn0 hye hkj hkp hq hh hv hle2
            go_wp2_with fail
            refine wp_region_results (fun r i => ([.int .i64 (q : Int), .int .i64 0, .bool true, .bool true, .func (.func 25) #[] #[], .slice (some ⟨g, 0, none⟩) n cap, .int .i64 (q : Int), .pointer (some ⟨g, q * 2, none⟩), .agg #[.int .i64 x0, .int .i64 x1], .slice (some ⟨g, 0, none⟩) n cap, .int .i64 (q : Int), .int .i64 (p : Int), .pointer (some ⟨g, p * 2, none⟩), .agg #[.int .i64 y0, .int .i64 y1], .int .i64 (cmpM x0 x1 y0 y1), .bool false, .bool false] : List Value).getD i undef) [14] [0, 0, 0, 0, 0, 0, 0, 0, 0, 0, 0, 0, 0, 0, 0, 1, 1] (fun r q w' => (Below wz.heap.size wz w')) (by kernel_rfl) (by kernel_rfl) (fun r => ⟨rfl, rfl, rfl, Nat.le_refl _, fun _ _ => rfl⟩) ?_ ?_
            · refine ObsR_of_ends (by kernel_rfl) ?_
              intro r Fr hEA
              refine ⟨?_, ?_, ?_, ?_, ?_, ?_, ?_, ?_, ?_, ?_, ?_, ?_, ?_, ?_, ?_, ?_, ?_, trivial⟩
              · exact obR_move _ rfl (want_none rfl) (by kernel_rfl) (eval_out hEA (d := 9) (by kernel_rfl))
              · exact obR_move _ rfl (want_none rfl) (by kernel_rfl) (eval_out hEA (d := 1) (by kernel_rfl))
              · refine obR_val (want_none rfl) (by kernel_rfl) (fun ph w' hp hpm hw => ?_)
                have e18 : Fr.tmps[18]? = some (.int .i64 (q : Int)) := hEA.dst 0 _ 18 rfl rfl; have e19 : Fr.tmps[19]? = some (.int .i64 0) := hEA.dst 1 _ 19 rfl rfl; simp [execOp, e18, e19, hgt, go_sem]
              · exact obR_move _ rfl (want_none rfl) (by kernel_rfl) (eval_dst hEA (j := 2) rfl rfl)
              · exact obR_move _ rfl (want_is hEA (g := 3) (x := true) (b := true) rfl rfl rfl rfl) (by kernel_rfl) (eval_out hEA (d := 3) (by kernel_rfl))
              · exact obR_move _ rfl (want_is hEA (g := 3) (x := true) (b := true) rfl rfl rfl rfl) (by kernel_rfl) (eval_out hEA (d := 0) (by kernel_rfl))
              · exact obR_move _ rfl (want_is hEA (g := 3) (x := true) (b := true) rfl rfl rfl rfl) (by kernel_rfl) (eval_out hEA (d := 9) (by kernel_rfl))
              · refine obR_val (want_is hEA (g := 3) (x := true) (b := true) rfl rfl rfl rfl) (by kernel_rfl) (fun ph w' hp hpm hw => ?_)
                have e23 : Fr.tmps[23]? = some (.slice (some ⟨g, 0, none⟩) n cap) := hEA.dst 5 _ 23 rfl rfl; have e24 : Fr.tmps[24]? = some (.int .i64 (q : Int)) := hEA.dst 6 _ 24 rfl rfl; simp [execOp, e23, e24, hiq, hgq, go_sem]
              · refine obR_val (want_is hEA (g := 3) (x := true) (b := true) rfl rfl rfl rfl) (by kernel_rfl) (fun ph w' hp hpm hw => ?_)
                have hc0 := (hw.cell (p := ⟨g, q * 2, none⟩) hgw).trans k0
                have hc1 := (hw.cell (p := ⟨g, q * 2 + 1, none⟩) hgw).trans k1
                have e25 : Fr.tmps[25]? = some (.pointer (some ⟨g, q * 2, none⟩)) := hEA.dst 7 _ 25 rfl rfl; simp [execOp, e25, hc0, hc1, go_sem]
              · exact obR_move _ rfl (want_is hEA (g := 3) (x := true) (b := true) rfl rfl rfl rfl) (by kernel_rfl) (eval_out hEA (d := 0) (by kernel_rfl))
              · exact obR_move _ rfl (want_is hEA (g := 3) (x := true) (b := true) rfl rfl rfl rfl) (by kernel_rfl) (eval_out hEA (d := 9) (by kernel_rfl))
              · refine obR_val (want_is hEA (g := 3) (x := true) (b := true) rfl rfl rfl rfl) (by kernel_rfl) (fun ph w' hp hpm hw => ?_)
                have e28 : Fr.tmps[28]? = some (.int .i64 (q : Int)) := hEA.dst 10 _ 28 rfl rfl; simp [execOp, e28, hwq, go_sem]
              · refine obR_val (want_is hEA (g := 3) (x := true) (b := true) rfl rfl rfl rfl) (by kernel_rfl) (fun ph w' hp hpm hw => ?_)
                have e27 : Fr.tmps[27]? = some (.slice (some ⟨g, 0, none⟩) n cap) := hEA.dst 9 _ 27 rfl rfl; have e29 : Fr.tmps[29]? = some (.int .i64 (p : Int)) := hEA.dst 11 _ 29 rfl rfl; simp [execOp, e27, e29, hip, hgp, go_sem]
              · refine obR_val (want_is hEA (g := 3) (x := true) (b := true) rfl rfl rfl rfl) (by kernel_rfl) (fun ph w' hp hpm hw => ?_)
                have hc0 := (hw.cell (p := ⟨g, p * 2, none⟩) hgw).trans k2
                have hc1 := (hw.cell (p := ⟨g, p * 2 + 1, none⟩) hgw).trans k3
                have e30 : Fr.tmps[30]? = some (.pointer (some ⟨g, p * 2, none⟩)) := hEA.dst 12 _ 30 rfl rfl; simp [execOp, e30, hc0, hc1, go_sem]
              · refine obR_call (q := 0) (f := 25) (args := #[.agg #[.int .i64 x0, .int .i64 x1], .agg #[.int .i64 y0, .int .i64 y1]]) (want_is hEA (g := 3) (x := true) (b := true) rfl rfl rfl rfl) (by kernel_rfl) (fun w' => by have e22 : Fr.tmps[22]? = some (.func (.func 25) #[] #[]) := hEA.dst 4 _ 22 rfl rfl; have e26 : Fr.tmps[26]? = some (.agg #[.int .i64 x0, .int .i64 x1]) := hEA.dst 8 _ 26 rfl rfl; have e31 : Fr.tmps[31]? = some (.agg #[.int .i64 y0, .int .i64 y1]) := hEA.dst 13 _ 31 rfl rfl; simp [e22, e26, e31, go_sem]) ?_
                intro w' hw
                refine (cmpP_any x0 x1 y0 y1 w').mono ?_
                rintro e w2 ⟨rfl, hb⟩
                exact ⟨_, rfl, fun r' hr hv => ⟨rfl, hw.trans (hb.mono hw.size)⟩⟩
              · refine obR_val (want_is hEA (g := 3) (x := true) (b := true) rfl rfl rfl rfl) (by kernel_rfl) (fun ph w' hp hpm hw => ?_)
                have e32 : Fr.tmps[32]? = some (.int .i64 (cmpM x0 x1 y0 y1)) := hEA.dst 14 _ 32 rfl rfl; simp [execOp, e32, hcn, go_sem]
              · refine obR_val (want_none rfl) (by kernel_rfl) (fun ph w' hp hpm hw => ?_)
                have e21 : Fr.tmps[21]? = some (.bool true) := hEA.dst 3 _ 21 rfl rfl; have e33 : Fr.tmps[33]? = some (.bool false) := hEA.dst 15 _ 33 rfl rfl; simp [execOp, e21, e33, go_sem]
            · intro r w' hw
              simp only [laid, Act.put, List.setIfInBounds_toArray, List.set_cons_succ, List.set_cons_zero, List.getD_cons_succ, List.getD_cons_zero, Nat.zero_add, Nat.reduceAdd]
              obtain ⟨wy, hwy⟩ : ∃ wy, w' = wy := ⟨_, rfl⟩
              rw [hwy] at hw
              rw [hwy]
              have hbx2 := hbx.below hw hgw
              have B2 := B.trans (hw.mono (Nat.le_trans hs0 B.size))
              clear hw hwy hbx B
              go_wp2
              go_roundw
              case rel => exact ⟨i + 1, _, rfl, by omega, by omega, by go_num, by rw [HRT.out, ← HEX.out]; exact hbx2, B2⟩
              case measure => simp [intOf]; omega
    · have hd : decide (i < n) = false := decide_eq_false hlt
      have HR : Hid (Box wr g ((sortM ms).flatMap mC)) := Lib.hid (by
        rw [List.take_of_length_le (by have := HNN.out; omega), List.drop_of_length_le (by have := HNN.out; omega), List.append_nil] at hbx
        exact hbx)
      clear hbx
      go_wp2
      go_end0
      exact ⟨⟨_, rfl⟩, HR.out, B⟩

end Go.Proofs.Ytkmlnglmecjmeaa
