import Derived.Test.YtjnefacdindamaaGreatDoorAwake14
import Derived.Test.YtjnefacdindamaaGreatDoorExpK
import Derived.Test.YtjnefacdindamaaGreatDoorExpF
import Derived.Test.YtjnefacdindamaaGreatDoorExpL
import Derived.Test.YtjnefacdindamaaGreatDoorPhaseA
import Derived.Test.YtjnefacdindamaaGreatDoorLens
import Derived.Test.YtjnefacdindamaaGreatDoorExpO
/- lodgelaw14.ExponentOwn answers true, whatever case and secrets come in, and leaves memory below as it was. Condition: the secrets take at most 2^47 - 4096 bytes. -/
namespace Go.Proofs.YtjnefacdindamaaGreatDoor
open Go Go.RowKit Num
set_option linter.unusedVariables false
set_option maxRecDepth 100000

set_option maxRecDepth 100000 in
set_option maxHeartbeats 16000000 in
theorem exponentOwn_walk (c : Array Value) (am : Option Addr) (ml mc : Nat) (w : World) (h : ∃ x, IsCase w.heap.size w x c.toList) (h' : ∃ es, Draws w.heap.size w es [.slice am ml mc]) (hbig : ml * 40 ≤ 140737488351232) (hT : Tab w) :
    Calls Tryz.prog 5 #[.agg c, .slice am ml mc] w fun e w' => e = .returned (.bool true) ∧ Below w.heap.size w w' := by
  have HTT : Hid (∀ W, Below w.heap.size w W → Tab W) := Lib.hid fun W hb => hT.next hb
  clear hT
  obtain ⟨es, he⟩ := h'
  have hml : es.length = ml := by obtain ⟨_, _, e, _⟩ := draws_len he _ rfl; simp only [Value.slice.injEq] at e; exact e.2.1.symm
  have HE := Lib.hid he
  have HML := Lib.hid hml
  have HBIG := Lib.hid hbig
  clear he hml hbig
  obtain ⟨⟨g, xs, ds, L, I⟩, u, v, hc, hx, hd⟩ := h
  simp only at hc hx hd
  obtain rfl : c = #[.int .i64 g, u, v, .int .i64 L, .int .i64 I] := by rw [← Array.toArray_toList (xs := c), hc]
  obtain ⟨Ax, cx, rfl, -, -⟩ := spots_len hx xs.length rfl
  obtain ⟨Ad, cd, rfl, -, -⟩ := draws_len hd ds.length rfl
  obtain ⟨lx, hlx⟩ : ∃ l, xs.length = l := ⟨_, rfl⟩
  obtain ⟨ld, hld⟩ : ∃ l, ds.length = l := ⟨_, rfl⟩
  rw [hlx] at hx
  rw [hld] at hd
  rw [hlx, hld]
  have HX := Lib.hid hx
  have HD := Lib.hid hd
  have HLX := Lib.hid hlx
  have HLD := Lib.hid hld
  obtain ⟨sb, hb1, hb2⟩ := smallE_any g xs ds
  have HSM := Lib.hid hb2
  clear hx hd hc hb2 hlx hld
  go_enter Tryz.func5, Tryz.ntmps5
  go_wp2_with fail
  obtain ⟨W0, hW0, b0, B⟩ : ∃ W0, w.alloc (.cells #[.int .i64 g, .slice Ax lx cx, .slice Ad ld cd, .int .i64 L, .int .i64 I] 27) = W0 ∧ Box W0 w.heap.size [.int .i64 g, .slice Ax lx cx, .slice Ad ld cd, .int .i64 L, .int .i64 I] ∧ Below w.heap.size w W0 := ⟨_, rfl, Box.new w _ _, below_new _ _⟩
  rw [hW0]
  clear hW0
  replace HX := Lib.hid (keeps_spots _ _ _ _ _ _ HX.out B B.size)
  replace HD := Lib.hid (keeps_draws _ _ _ _ _ _ HD.out B B.size)
  replace HE := Lib.hid (keeps_draws _ _ _ _ _ _ HE.out B B.size)
  obtain ⟨G0, hG0⟩ : ∃ G, w.heap.size = G := ⟨_, rfl⟩
  rw [hG0] at b0
  try rw [hG0]
  clear hG0
  refine (HSM.out _ _ W0 HX.out HD.out).mono ?_
  rintro e W1 ⟨rfl, hb⟩
  replace HX := Lib.hid (keeps_spots _ _ _ _ _ _ HX.out hb hb.size)
  replace HD := Lib.hid (keeps_draws _ _ _ _ _ _ HD.out hb hb.size)
  replace HE := Lib.hid (keeps_draws _ _ _ _ _ _ HE.out hb hb.size)
  replace b0 := b0.next hb
  replace B := B.trans (hb.mono B.size)
  clear hb
  cases sb with
  | false =>
    clear hb1
    go_wp2_with fail
    refine (awake14_any W1 (HTT.out _ B)).mono ?_
    rintro e W9 ⟨rfl, B9⟩
    go_wp2
    go_ret
    exact ⟨rfl, B.trans (B9.mono B.size)⟩
  | true =>
    obtain ⟨hg5, hxl, hdl, hds, ot, rfl, hok⟩ := hb1 rfl
    have hht : htO ot ≤ 60 := ht_small hxl
    have hn : (spo ot).length ≤ 1000000 := by omega
    have hsh : ∀ m ∈ lvO ot, (secL ds m).length ≤ 4 := fun m _ => secL_four hds m
    clear hb1
    have hlx := HLX.out
    by_cases h0 : lx = 0
    · subst h0
      clear hlx
      have qb00 := b0.c 0 _ rfl
      have qb01 := b0.c 1 _ rfl
      have qb02 := b0.c 2 _ rfl
      have qb03 := b0.c 3 _ rfl
      have qb04 := b0.c 4 _ rfl
      go_wp2_with fail
      refine (awake14_any W1 (HTT.out _ B)).mono ?_
      rintro e W2 ⟨rfl, hb⟩
      replace b0 := b0.next hb
      replace B := B.trans (hb.mono B.size)
      clear hb
      go_wp2
      go_ret
      exact ⟨rfl, B⟩
    · have hl0 : ((lx : Int) == 0) = false := by
        rw [beq_eq_false_iff_ne]; omega
      obtain ⟨t, rfl⟩ : ∃ t, ot = some t := by
        cases ot with
        | none => exact absurd hlx.symm h0
        | some t => exact ⟨t, rfl⟩
      have hm40 : (lv (spo (some t))).length ≤ 40 := Nat.le_trans (lv_length_le _) hxl
      obtain ⟨ms, hms⟩ : ∃ ms, lv (spo (some t)) = ms := ⟨_, rfl⟩
      obtain ⟨K, hK⟩ : ∃ K, keyO g ds (some t) = K := ⟨_, rfl⟩
      have hlv : lvO (some t) = ms := hms
      have HK0 : Hid (∀ w', Spots w'.heap.size w' (spo (some t)) [.slice Ax lx cx] → Draws w'.heap.size w' ds [.slice Ad ld cd] → Calls Tryz.prog 10 #[.int .i64 g, .slice Ax lx cx, .slice Ad ld cd] w' fun e W' => e = .returned (.string (tx K)) ∧ Below w'.heap.size w' W') := Lib.hid fun w' h1 h2 => by
        have := eKey_any g ds (some t) _ _ w' h1 h2 hok hht hsh
        rwa [hK] at this
      have HK1 : Hid (∀ (u : Value) (w' : World), Spots w'.heap.size w' (spo (some t)) [.slice Ax lx cx] → Draws w'.heap.size w' (ownD ds ms) [u] → Calls Tryz.prog 10 #[.int .i64 g, .slice Ax lx cx, u] w' fun e W' => e = .returned (.string (tx K)) ∧ Below w'.heap.size w' W') := Lib.hid fun u w' h1 h2 => by
        have e : keyO g (ownD ds ms) (some t) = K := by rw [← hK, ← hms]; exact (own_key g ds es t).1
        have := eKey_any g (ownD ds ms) (some t) _ _ w' h1 h2 hok hht (fun m hm => by rw [ownD_sec ds ms m (by rwa [hlv] at hm)]; exact secL_four hds m)
        rwa [e] at this
      have HK2 : Hid (∀ (u : Value) (w' : World), Spots w'.heap.size w' (spo (some t)) [.slice Ax lx cx] → Draws w'.heap.size w' (ownD ds ms ++ es) [u] → Calls Tryz.prog 10 #[.int .i64 g, .slice Ax lx cx, u] w' fun e W' => e = .returned (.string (tx K)) ∧ Below w'.heap.size w' W') := Lib.hid fun u w' h1 h2 => by
        have e : keyO g (ownD ds ms ++ es) (some t) = K := by rw [← hK, ← hms]; exact (own_key g ds es t).2
        have := eKey_any g (ownD ds ms ++ es) (some t) _ _ w' h1 h2 hok hht (fun m hm => by
          rw [hlv] at hm
          rw [secL_append (ownD ds ms) es m ⟨(m, secL ds m, 0), List.mem_map.2 ⟨m, hm, rfl⟩, rfl⟩, ownD_sec ds ms m hm]
          exact secL_four hds m)
        rwa [e] at this
      have HNO : Hid (¬ (∀ m ∈ ms, secL ds m ≠ []) → K = []) := Lib.hid fun h => by
        obtain ⟨m, hm⟩ := Classical.not_forall.1 h
        obtain ⟨hm1, hm2⟩ := Classical.not_imp.1 hm
        rw [← hK]
        rw [← hms] at hm1
        exact keyT_missing g t ⟨m, hm1, Classical.not_not.1 hm2⟩
      have HYES : Hid (P g ≠ 0 → (∀ m ∈ ms, secL ds m ≠ []) → K ≠ []) := Lib.hid fun hP h => by
        rw [← hK]
        rw [← hms] at h
        exact keyT_all hP t h
      have HMS := Lib.hid hms
      have HS4 := Lib.hid (fun m => secL_four hds m)
      have HLEN : Hid (∀ d ∈ ownD ds ms, d.2.1.length ≤ maxLen) := Lib.hid fun d hd => by
        obtain ⟨m, hm, rfl⟩ := List.mem_map.1 hd
        exact Nat.le_trans (secL_four hds m) (by decide)
      rw [hms] at hm40
      clear hlv hms hK hlx h0
      have qb00 := b0.c 0 _ rfl
      have qb01 := b0.c 1 _ rfl
      have qb02 := b0.c 2 _ rfl
      have qb03 := b0.c 3 _ rfl
      have qb04 := b0.c 4 _ rfl
      go_wp2_with fail
      refine (refLeaves_any _ (spo (some t)) W1 HX.out hn).mono ?_
      rintro e W2 ⟨vm, rfl, hm, hb⟩
      replace HX := Lib.hid (keeps_spots _ _ _ _ _ _ HX.out hb hb.size)
      replace HD := Lib.hid (keeps_draws _ _ _ _ _ _ HD.out hb hb.size)
      replace HE := Lib.hid (keeps_draws _ _ _ _ _ _ HE.out hb hb.size)
      replace b0 := b0.next hb
      replace B := B.trans (hb.mono B.size)
      clear hb
      have HM := Lib.hid hm
      clear hm
      clear qb00 qb01 qb02 qb03 qb04
      rw [HMS.out] at HM
      obtain ⟨A3, c3, rfl, -, -⟩ := mems_len HM.out _ rfl
      obtain ⟨n, hn0⟩ : ∃ n, ms.length = n := ⟨_, rfl⟩
      have HN := Lib.hid hn0
      rw [hn0] at HM hm40
      rw [hn0]
      clear hn0
      have hs0 := HM.out
      obtain ⟨AS, cS, eS, hlcS, hcmS, hpS⟩ := mems_at hs0
      simp only [Value.slice.injEq] at eS
      obtain ⟨rfl, -, rfl⟩ := eS
      have HP := Lib.hid hpS
      obtain ⟨N, hN⟩ : ∃ N, W2.heap.size = N := ⟨_, rfl⟩
      have HNN := Lib.hid hN
      have hwN : w.heap.size ≤ N := by rw [← hN]; exact B.size
      have BN0 : Below N W2 W2 := by rw [← hN]; exact Below.refl _ _
      have hNW : N ≤ W2.heap.size := Nat.le_of_eq hN.symm
      have HON := Lib.hid (fun k (hk : k < ms.length) => ownD_step ds ms k hk)
      have HAL0 := Lib.hid (allD_none ds ms)
      have HAY := Lib.hid (fun k (hk : k < ms.length) hs => allD_yes ds ms k hk hs)
      have HAN := Lib.hid (fun k (hk : k < ms.length) hs => allD_no ds ms k hk hs)
      have HAE := Lib.hid (allD_end (ds := ds) (ms := ms) (k := n) (Nat.le_of_eq HN.out))
      clear hs0 hpS hcmS hN hlcS
      go_wp2_with fail
      go_loopw [5, 7, 8, 9] (fun u a i _ wr => ∃ (k : Nat) (wq : World) (uq : Value), wq = wr ∧ uq = u ∧ k ≤ n ∧ i = .int .i64 k ∧ a = .bool (allD ds ms k) ∧ wr.ownsRow N 41 4 u k ((ownD ds (ms.take k)).flatMap dC) ∧ Below w.heap.size w wr ∧ Below N W2 wr ∧ N ≤ wr.heap.size) (fun _ _ i _ _ => n - (intOf i).toNat)
      case atStart => exact ⟨0, _, _, rfl, rfl, Nat.zero_le _, rfl, by rw [HAL0.out], World.ownsRow_nil _ _ _ _, B, BN0, hNW⟩
      case round =>
        clear B BN0 hNW
        obtain ⟨k, wr, u, rfl, rfl, hk, rfl, rfl, hown, B, BN, hNw⟩ := hrel
        by_cases hlt : k < n
        · have hd : decide (k < n) = true := by simpa using hlt
          have hi : (k : Int) < (n : Int) := by omega
          have hge : (0 : Int) ≤ (k : Int) := by omega
          have hkm : k < ms.length := by rw [HN.out]; exact hlt
          obtain ⟨g1, off, rfl, hbn, hc0, hc1⟩ := HP.out k hkm
          have hbN : g1 < N := by rw [← HNN.out]; exact hbn
          have k0 := (BN.cell (p := ⟨g1, off + k * 2, none⟩) hbN).trans hc0
          have k1 := (BN.cell (p := ⟨g1, off + k * 2 + 1, none⟩) hbN).trans hc1
          have hbr : g1 < wr.heap.size := Nat.lt_of_lt_of_le hbN hNw
          have HF := Lib.hid (HON.out k hkm)
          have HY := Lib.hid (HAY.out k hkm)
          have HZ := Lib.hid (HAN.out k hkm)
          have hle0 : Below W2.heap.size W2 wr := by rw [HNN.out]; exact BN
          have HDr := Lib.hid (keeps_draws _ _ _ _ _ _ HD.out hle0 hle0.size)
          have b0r := b0.next hle0
          obtain ⟨⟨x, y⟩, hb⟩ : ∃ b, ms[k] = b := ⟨_, rfl⟩
          rw [hb] at k0 k1 HF HY HZ
          obtain ⟨X, hX⟩ : ∃ X, secL ds (x, y) = X := ⟨_, rfl⟩
          have hX4 : X.length ≤ maxLen := by rw [← hX]; exact Nat.le_trans (HS4.out _) (by decide)
          have hex := tx_none X
          have HSEC : Hid (∀ w', Draws w'.heap.size w' ds [.slice Ad ld cd] → Calls Tryz.prog 14 #[.slice Ad ld cd, vM x y] w' fun e W' => e = .returned (.string (tx X)) ∧ Below w'.heap.size w' W') := Lib.hid fun w' h => by
            have := eSecret_any _ ds x y w' h
            rwa [hX] at this
          rw [hX] at HF HY HZ
          clear hb hc0 hc1 hle0 hX
          go_wp2_with fail
          refine wp_region_results (fun r i => ([.pointer (some ⟨G0, 2, none⟩), .slice Ad ld cd, .slice (some ⟨g1, off, none⟩) n c3, .int .i64 (k : Int), .pointer (some ⟨g1, off + k * 2, none⟩), .agg #[.int .i64 x, .int .i64 y], .string (tx X), .string (tx X)] : List Value).getD i undef) [6] [0, 0, 0, 0, 0, 0, 0, 1] (fun r q w' => (Below wr.heap.size wr w')) (by kernel_rfl) (by kernel_rfl) (fun r => ⟨rfl, rfl, rfl, Nat.le_refl _, fun _ _ => rfl⟩) ?_ ?_
          · refine ObsR_of_ends (by kernel_rfl) ?_
            intro r Fr hEA
            refine ⟨?_, ?_, ?_, ?_, ?_, ?_, ?_, ?_, trivial⟩
            · refine obR_val (want_none rfl) (by kernel_rfl) (fun ph w' hp hpm hw => ?_)
              have e2 : Fr.tmps[2]? = some (.pointer (some ⟨G0, 0, none⟩)) := at_out hEA (d := 2) (by kernel_rfl); simp [execOp, e2, go_sem]
            · refine obR_val (want_none rfl) (by kernel_rfl) (fun ph w' hp hpm hw => ?_)
              have hc0 := (hw.cell (p := ⟨G0, 2, none⟩) b0r.lt).trans (b0r.c 2 _ rfl)
              have e36 : Fr.tmps[36]? = some (.pointer (some ⟨G0, 2, none⟩)) := hEA.dst 0 _ 36 rfl rfl; simp [execOp, e36, hc0, go_sem]
            · exact obR_move _ rfl (want_none rfl) (by kernel_rfl) (eval_out hEA (d := 6) (by kernel_rfl))
            · exact obR_move _ rfl (want_none rfl) (by kernel_rfl) (eval_out hEA (d := 8) (by kernel_rfl))
            · refine obR_val (want_none rfl) (by kernel_rfl) (fun ph w' hp hpm hw => ?_)
              have e38 : Fr.tmps[38]? = some (.slice (some ⟨g1, off, none⟩) n c3) := hEA.dst 2 _ 38 rfl rfl; have e39 : Fr.tmps[39]? = some (.int .i64 (k : Int)) := hEA.dst 3 _ 39 rfl rfl; simp [execOp, e38, e39, hi, hge, go_sem]
            · refine obR_val (want_none rfl) (by kernel_rfl) (fun ph w' hp hpm hw => ?_)
              have hc0 := (hw.cell (p := ⟨g1, off + k * 2, none⟩) hbr).trans k0
              have hc1 := (hw.cell (p := ⟨g1, off + k * 2 + 1, none⟩) hbr).trans k1
              have e40 : Fr.tmps[40]? = some (.pointer (some ⟨g1, off + k * 2, none⟩)) := hEA.dst 4 _ 40 rfl rfl; simp [execOp, e40, hc0, hc1, go_sem]
            · refine obR_call (q := 0) (f := 14) (args := #[.slice Ad ld cd, .agg #[.int .i64 x, .int .i64 y]]) (want_none rfl) (by kernel_rfl) (fun w' => by have e37 : Fr.tmps[37]? = some (.slice Ad ld cd) := hEA.dst 1 _ 37 rfl rfl; have e41 : Fr.tmps[41]? = some (.agg #[.int .i64 x, .int .i64 y]) := hEA.dst 5 _ 41 rfl rfl; simp [e37, e41, go_sem]) ?_
              intro w' hw
              refine (HSEC.out w' (keeps_draws _ _ _ _ _ _ HDr.out hw hw.size)).mono ?_
              rintro e w2 ⟨rfl, hb⟩
              exact ⟨_, rfl, fun r' hr hv => ⟨rfl, hw.trans (hb.mono hw.size)⟩⟩
            · refine obR_val (want_none rfl) (by kernel_rfl) (fun ph w' hp hpm hw => ?_)
              have e42 : Fr.tmps[42]? = some (.string (tx X)) := hEA.dst 6 _ 42 rfl rfl; simp [execOp, e42, go_sem]
          · intro r w' hw
            simp only [laid, Act.put, List.setIfInBounds_toArray, List.set_cons_succ, List.set_cons_zero, List.getD_cons_succ, List.getD_cons_zero, Nat.zero_add, Nat.reduceAdd]
            obtain ⟨w2, hw2⟩ : ∃ w2, w' = w2 := ⟨_, rfl⟩
            rw [hw2] at hw
            try rw [hw2]
            clear hw2
            have c0 := (hw.cell (p := ⟨g1, off + k * 2, none⟩) hbr).trans k0
            have c1 := (hw.cell (p := ⟨g1, off + k * 2 + 1, none⟩) hbr).trans k1
            have hown9 := owns_below hown hw
            have B9 := B.trans (hw.mono B.size)
            have BN9 := BN.trans (hw.mono hNw)
            have hNw9 := Nat.le_trans hNw hw.size
            clear hown hw B BN k0 k1 HDr b0r HSEC hbr
            have HAB : ∃ ab, allD ds ms (k + 1) = ab ∧ (allD ds ms k && !decide (X = [])) = ab := ⟨_, rfl, by
              by_cases hx : X = []
              · rw [HZ.out hx, decide_eq_true hx]; simp
              · rw [HY.out hx, decide_eq_false hx]; simp⟩
            obtain ⟨ab, hab, hab2⟩ := HAB
            have HAB := Lib.hid hab
            clear HY HZ hab
            obtain ⟨a0, ha0⟩ : ∃ a0, allD ds ms k = a0 := ⟨_, rfl⟩
            rw [ha0] at hab2
            rw [ha0]
            clear ha0
            obtain ⟨xb, hxb⟩ : ∃ xb, decide (X = []) = xb := ⟨_, rfl⟩
            rw [hxb] at hab2 hex
            clear hxb
            cases a0 <;> cases xb <;> simp only [Bool.true_and, Bool.false_and, Bool.not_true, Bool.not_false] at hab2 <;> subst hab2
            all_goals
              go_wp2_with (at_builtin; refine append_draws _ rfl _ _ rfl N _ _ _ rfl (hown9.alloc _) _ _ [((x, y), X, 0)] rfl (one_draw _ ((x, y), X, 0) _ _ (by simp) hX4) ?c1 ?c2 ?_)
              case c1 => simp only [List.length_cons, List.length_nil]; omega
              case c2 => simp; omega
              intro v' w' hown' hgr
              have B2 := (B9.alloc B9.size (.cells #[.int .i64 x, .int .i64 y, .string (tx X), .int .i64 0] 41)).grown hgr (by have := B9.size; simp; omega) (fun k hk => by have := (hown9.lt k hk).1; omega)
              have BN2 := (BN9.alloc hNw9 (.cells #[.int .i64 x, .int .i64 y, .string (tx X), .int .i64 0] 41)).grown hgr (by simp; omega) (fun k hk => (hown9.lt k hk).1)
              have hNw2 : N ≤ w'.heap.size := by have := hgr.size; simp at this; omega
              have HO2 : Hid (w'.ownsRow N 41 4 v' (k + 1) ((ownD ds (ms.take (k + 1))).flatMap dC)) := Lib.hid (by rw [HF.out, List.flatMap_append]; exact hown')
              clear hown9 B9 BN9 hNw9 c0 c1 hgr hown' HF
              go_wp2
              go_roundw
              case rel => exact ⟨k + 1, _, _, rfl, rfl, by omega, by go_num, by rw [HAB.out], HO2.out, B2, BN2, hNw2⟩
              case measure => simp [intOf]; omega
        · have hd : decide (k < n) = false := by simpa using hlt
          obtain rfl : n = k := by omega
          have hkk : ms.take n = ms := List.take_of_length_le (Nat.le_of_eq HN.out)
          rw [hkk] at hown
          obtain ⟨au, lu, cu, rfl⟩ : ∃ ao n' cap, u = Value.slice ao n' cap := by
            rcases hown.2 with ⟨hv, _⟩ | ⟨g, cap, cur, hv, _⟩
            · exact ⟨_, _, _, hv⟩
            · exact ⟨_, _, _, hv⟩
          have hOL : (ownD ds ms).length = n := by rw [ownD_len, HN.out]
          have HW := Lib.hid (own_draws HLEN.out (show wr.ownsRow N 41 4 _ (ownD ds ms).length ((ownD ds ms).flatMap dC) by rw [hOL]; exact hown))
          have hbE : Below W2.heap.size W2 wr := by rw [HNN.out]; exact BN
          replace HX := Lib.hid (keeps_spots _ _ _ _ _ _ HX.out hbE hbE.size)
          replace HD := Lib.hid (keeps_draws _ _ _ _ _ _ HD.out hbE hbE.size)
          replace HE := Lib.hid (keeps_draws _ _ _ _ _ _ HE.out hbE hbE.size)
          replace b0 := b0.next hbE
          have HLL : Hid (∀ d ∈ ownD ds ms ++ es, d.2.1.length ≤ maxLen) := Lib.hid fun d hd => by
            rcases List.mem_append.1 hd with h | h
            · exact HLEN.out d h
            · exact draws_lens HE.out d h
          have hsz : (0 + (ownD ds ms).length + es.length) * 40 ≤ 140737488355328 := by
            have h1 := HBIG.out
            have h2 := HML.out
            omega
          have hsz0 : (0 + (ownD ds ms).length) * 40 ≤ 140737488355328 := by omega
          obtain ⟨od, hod⟩ : ∃ od, ownD ds ms = od := ⟨_, rfl⟩
          rw [hod] at HW HLL HK1 HK2 hsz hsz0
          obtain ⟨ab, hab⟩ : ∃ ab, decide (∀ m ∈ ms, secL ds m ≠ []) = ab := ⟨_, rfl⟩
          have HN1 : Hid (ab = false → K = []) := Lib.hid fun h => HNO.out (of_decide_eq_false (hab.trans h))
          have HY1 : Hid (P g ≠ 0 → ab = true → K ≠ []) := Lib.hid fun hP h => HYES.out hP (of_decide_eq_true (hab.trans h))
          have HAB : Hid (allD ds ms n = ab) := Lib.hid (HAE.out.trans hab)
          rw [HAB.out]
          have hek := tx_none K
          clear hab hod hkk hown hOL hbE BN hNw hk hlt HAY HAN HAE HAL0 HON HP HNO HYES HAB HM
          have qb00 := b0.c 0 _ rfl
          have qb01 := b0.c 1 _ rfl
          have qb02 := b0.c 2 _ rfl
          have qb03 := b0.c 3 _ rfl
          have qb04 := b0.c 4 _ rfl
          go_wp2_with fail
          refine (HK0.out wr HX.out HD.out).mono ?_
          rintro e V1 ⟨rfl, hb⟩
          replace HX := Lib.hid (keeps_spots _ _ _ _ _ _ HX.out hb hb.size)
          replace HD := Lib.hid (keeps_draws _ _ _ _ _ _ HD.out hb hb.size)
          replace HE := Lib.hid (keeps_draws _ _ _ _ _ _ HE.out hb hb.size)
          replace HW := Lib.hid (keeps_draws _ _ _ _ _ _ HW.out hb hb.size)
          replace b0 := b0.next hb
          replace B := B.trans (hb.mono B.size)
          clear hb
          clear qb00 qb01 qb02 qb03 qb04
          by_cases e0 : g = 0
          · subst e0
            cases ab with
            | false =>
              have hK0 : K = [] := HN1.out rfl
              rw [decide_eq_true hK0] at hek
              clear hK0 HN1 HY1 hd
              have qb00 := b0.c 0 _ rfl
              go_wp2_with fail
              refine wp_region_results (fun r i => ([.bool true, .bool true, .string (tx K), .pointer (some ⟨G0, 0, none⟩), .int .i64 0, .pointer (some ⟨G0, 1, none⟩), .slice Ax lx cx, .slice au lu cu, .string (tx K), .bool true, .bool true, .bool true, .string (tx K), .pointer (some ⟨G0, 0, none⟩), .int .i64 0, .pointer (some ⟨G0, 1, none⟩), .slice Ax lx cx, (r 2), .slice au lu cu, (r 3), .slice am ml mc, (r 4), .string (tx K), .bool true, .bool true, .bool true, .bool false, .bool false, .string (tx K), .bool true, .bool true, .bool true, .bool true, .bool false, .bool true, .bool true, undef, undef, .bool true, .bool true, undef, undef, .bool true, .bool true, .bool true] : List Value).getD i undef) [0, 8, 17, 19, 21, 22] [0, 1, 1, 1, 1, 1, 1, 1, 1, 2, 2, 2, 2, 2, 2, 2, 2, 2, 2, 3, 2, 4, 5, 6, 6, 6, 6, 6, 6, 6, 6, 6, 6, 6, 6, 6, 6, 6, 6, 6, 6, 6, 6, 6, 6] (fun r q w' => Below V1.heap.size V1 w' ∧ (q = 3 → w'.ownsRow V1.heap.size 41 4 (r 2) 0 []) ∧ (q = 4 → w'.ownsRow V1.heap.size 41 4 (r 3) (0 + od.length) ([] ++ od.flatMap dC)) ∧ (q = 5 → w'.ownsRow V1.heap.size 41 4 (r 4) (0 + od.length + es.length) ([] ++ od.flatMap dC ++ es.flatMap dC))) (by kernel_rfl) (by kernel_rfl) (fun r => ⟨⟨rfl, rfl, rfl, Nat.le_refl _, fun _ _ => rfl⟩, (by intro h; cases h), (by intro h; cases h), (by intro h; cases h)⟩) ?_ ?_
              · refine ObsR_of_ends (by kernel_rfl) ?_
                intro r Fr hEA
                refine ⟨?_, ?_, ?_, ?_, ?_, ?_, ?_, ?_, ?_, ?_, ?_, ?_, ?_, ?_, ?_, ?_, ?_, ?_, ?_, ?_, ?_, ?_, ?_, ?_, ?_, ?_, ?_, ?_, ?_, ?_, ?_, ?_, ?_, ?_, ?_, ?_, ?_, ?_, ?_, ?_, ?_, ?_, ?_, ?_, ?_, trivial⟩
                · refine obR_call (q := 0) (f := 9) (args := #[]) (want_none rfl) (by kernel_rfl) (fun w' => by simp [go_sem]) ?_
                  intro w' hw
                  refine (awake14_any w' (HTT.out _ (B.trans (hw.1.mono B.size)))).mono ?_
                  rintro e w2 ⟨rfl, hb⟩
                  exact ⟨_, rfl, fun r' hr hv => ⟨rfl, hw.1.trans (hb.mono hw.1.size), (by intro h; cases h), (by intro h; cases h), (by intro h; cases h)⟩⟩
                · exact obR_move _ rfl (want_none rfl) (by kernel_rfl) (eval_dst hEA (j := 0) rfl rfl)
                · exact obR_move _ rfl (want_is hEA (g := 1) (x := true) (b := true) rfl rfl rfl rfl) (by kernel_rfl) (eval_out hEA (d := 10) (by kernel_rfl))
                · refine obR_val (want_is hEA (g := 1) (x := true) (b := true) rfl rfl rfl rfl) (by kernel_rfl) (fun ph w' hp hpm hw => ?_)
                  have e2 : Fr.tmps[2]? = some (.pointer (some ⟨G0, 0, none⟩)) := at_out hEA (d := 2) (by kernel_rfl); simp [execOp, e2, go_sem]
                · refine obR_val (want_is hEA (g := 1) (x := true) (b := true) rfl rfl rfl rfl) (by kernel_rfl) (fun ph w' hp hpm hw => ?_)
                  have hc0 := (hw.1.cell (p := ⟨G0, 0, none⟩) b0.lt).trans (b0.c 0 _ rfl)
                  have e75 : Fr.tmps[75]? = some (.pointer (some ⟨G0, 0, none⟩)) := hEA.dst 3 _ 75 rfl rfl; simp [execOp, e75, hc0, go_sem]
                · refine obR_val (want_is hEA (g := 1) (x := true) (b := true) rfl rfl rfl rfl) (by kernel_rfl) (fun ph w' hp hpm hw => ?_)
                  have e2 : Fr.tmps[2]? = some (.pointer (some ⟨G0, 0, none⟩)) := at_out hEA (d := 2) (by kernel_rfl); simp [execOp, e2, go_sem]
                · refine obR_val (want_is hEA (g := 1) (x := true) (b := true) rfl rfl rfl rfl) (by kernel_rfl) (fun ph w' hp hpm hw => ?_)
                  have hc0 := (hw.1.cell (p := ⟨G0, 1, none⟩) b0.lt).trans (b0.c 1 _ rfl)
                  have e77 : Fr.tmps[77]? = some (.pointer (some ⟨G0, 1, none⟩)) := hEA.dst 5 _ 77 rfl rfl; simp [execOp, e77, hc0, go_sem]
                · exact obR_move _ rfl (want_is hEA (g := 1) (x := true) (b := true) rfl rfl rfl rfl) (by kernel_rfl) (eval_out hEA (d := 5) (by kernel_rfl))
                · refine obR_call (q := 1) (f := 10) (args := #[.int .i64 0, .slice Ax lx cx, .slice au lu cu]) (want_is hEA (g := 1) (x := true) (b := true) rfl rfl rfl rfl) (by kernel_rfl) (fun w' => by have e76 : Fr.tmps[76]? = some (.int .i64 0) := hEA.dst 4 _ 76 rfl rfl; have e78 : Fr.tmps[78]? = some (.slice Ax lx cx) := hEA.dst 6 _ 78 rfl rfl; have e79 : Fr.tmps[79]? = some (.slice au lu cu) := hEA.dst 7 _ 79 rfl rfl; simp [e76, e78, e79, go_sem]) ?_
                  intro w' hw
                  refine (HK1.out _ w' (keeps_spots _ _ _ _ _ _ HX.out hw.1 hw.1.size) (keeps_draws _ _ _ _ _ _ HW.out hw.1 hw.1.size)).mono ?_
                  rintro e w2 ⟨rfl, hb⟩
                  exact ⟨_, rfl, fun r' hr hv => ⟨rfl, hw.1.trans (hb.mono hw.1.size), (by intro h; cases h), (by intro h; cases h), (by intro h; cases h)⟩⟩
                · refine obR_val (want_is hEA (g := 1) (x := true) (b := true) rfl rfl rfl rfl) (by kernel_rfl) (fun ph w' hp hpm hw => ?_)
                  have e74 : Fr.tmps[74]? = some (.string (tx K)) := hEA.dst 2 _ 74 rfl rfl; have e80 : Fr.tmps[80]? = some (.string (tx K)) := hEA.dst 8 _ 80 rfl rfl; simp [execOp, e74, e80, go_sem]
                · refine obR_val (want_none rfl) (by kernel_rfl) (fun ph w' hp hpm hw => ?_)
                  have e73 : Fr.tmps[73]? = some (.bool true) := hEA.dst 1 _ 73 rfl rfl; have e81 : Fr.tmps[81]? = some (.bool true) := hEA.dst 9 _ 81 rfl rfl; simp [execOp, e73, e81, go_sem]
                · exact obR_move _ rfl (want_none rfl) (by kernel_rfl) (eval_dst hEA (j := 10) rfl rfl)
                · exact obR_move _ rfl (want_is hEA (g := 11) (x := true) (b := true) rfl rfl rfl rfl) (by kernel_rfl) (eval_out hEA (d := 10) (by kernel_rfl))
                · refine obR_val (want_is hEA (g := 11) (x := true) (b := true) rfl rfl rfl rfl) (by kernel_rfl) (fun ph w' hp hpm hw => ?_)
                  have e2 : Fr.tmps[2]? = some (.pointer (some ⟨G0, 0, none⟩)) := at_out hEA (d := 2) (by kernel_rfl); simp [execOp, e2, go_sem]
                · refine obR_val (want_is hEA (g := 11) (x := true) (b := true) rfl rfl rfl rfl) (by kernel_rfl) (fun ph w' hp hpm hw => ?_)
                  have hc0 := (hw.1.cell (p := ⟨G0, 0, none⟩) b0.lt).trans (b0.c 0 _ rfl)
                  have e85 : Fr.tmps[85]? = some (.pointer (some ⟨G0, 0, none⟩)) := hEA.dst 13 _ 85 rfl rfl; simp [execOp, e85, hc0, go_sem]
                · refine obR_val (want_is hEA (g := 11) (x := true) (b := true) rfl rfl rfl rfl) (by kernel_rfl) (fun ph w' hp hpm hw => ?_)
                  have e2 : Fr.tmps[2]? = some (.pointer (some ⟨G0, 0, none⟩)) := at_out hEA (d := 2) (by kernel_rfl); simp [execOp, e2, go_sem]
                · refine obR_val (want_is hEA (g := 11) (x := true) (b := true) rfl rfl rfl rfl) (by kernel_rfl) (fun ph w' hp hpm hw => ?_)
                  have hc0 := (hw.1.cell (p := ⟨G0, 1, none⟩) b0.lt).trans (b0.c 1 _ rfl)
                  have e87 : Fr.tmps[87]? = some (.pointer (some ⟨G0, 1, none⟩)) := hEA.dst 15 _ 87 rfl rfl; simp [execOp, e87, hc0, go_sem]
                · refine obR_make (q := 2) (want_is hEA (g := 11) (x := true) (b := true) rfl rfl rfl rfl) (by kernel_rfl) (fun w' hw => ?_)
                  exact ⟨.slice (some ⟨w'.heap.size, 0, none⟩) 0 0, w'.alloc (.cells #[] 41), by simp [execOp, go_sem], fun r' hr hv => ⟨hv, hw.1.alloc hw.1.size _, fun _ => by rw [hv]; exact owns_empty w' _ 4 hw.1.size, (by intro h; cases h), (by intro h; cases h)⟩⟩
                · exact obR_move _ rfl (want_is hEA (g := 11) (x := true) (b := true) rfl rfl rfl rfl) (by kernel_rfl) (eval_out hEA (d := 5) (by kernel_rfl))
                · refine obR_make (q := 3) (want_is hEA (g := 11) (x := true) (b := true) rfl rfl rfl rfl) (by kernel_rfl) (fun w' hw => ?_)
                  exact run_append_draws_then w' (.tmp 89) (.tmp 90) rfl V1.heap.size (r 2) 0 [] (eval_dst hEA (j := 17) rfl rfl) (hw.2.1 rfl) w'.heap.size _ od (eval_dst hEA (j := 18) rfl rfl) (keeps_draws _ _ _ _ _ _ HW.out hw.1 hw.1.size) hsz0 hw.1.size (fun v' w3 hown hg r' hr hv => ⟨hv, hw.1.grown hg hw.1.size (fun k hk => ((hw.2.1 rfl).lt k hk).1), (by intro h; cases h), (fun _ => by rw [hv]; exact hown), (by intro h; cases h)⟩)
                · exact obR_move _ rfl (want_is hEA (g := 11) (x := true) (b := true) rfl rfl rfl rfl) (by kernel_rfl) (eval_out hEA (d := 1) (by kernel_rfl))
                · refine obR_make (q := 4) (want_is hEA (g := 11) (x := true) (b := true) rfl rfl rfl rfl) (by kernel_rfl) (fun w' hw => ?_)
                  exact run_append_draws_then w' (.tmp 91) (.tmp 92) rfl V1.heap.size (r 3) _ _ (eval_dst hEA (j := 19) rfl rfl) (hw.2.2.1 rfl) w'.heap.size _ es (eval_dst hEA (j := 20) rfl rfl) (keeps_draws _ _ _ _ _ _ HE.out hw.1 hw.1.size) hsz hw.1.size (fun v' w3 hown hg r' hr hv => ⟨hv, hw.1.grown hg hw.1.size (fun k hk => ((hw.2.2.1 rfl).lt k hk).1), (by intro h; cases h), (by intro h; cases h), (fun _ => by rw [hv]; exact hown)⟩)
                · refine obR_call (q := 5) (f := 10) (args := #[.int .i64 0, .slice Ax lx cx, (r 4)]) (want_is hEA (g := 11) (x := true) (b := true) rfl rfl rfl rfl) (by kernel_rfl) (fun w' => by have e86 : Fr.tmps[86]? = some (.int .i64 0) := hEA.dst 14 _ 86 rfl rfl; have e88 : Fr.tmps[88]? = some (.slice Ax lx cx) := hEA.dst 16 _ 88 rfl rfl; have e93 : Fr.tmps[93]? = some ((r 4)) := hEA.dst 21 _ 93 rfl rfl; simp [e86, e88, e93, go_sem]) ?_
                  intro w' hw
                  have h5 := hw.2.2.2 rfl
                  rw [Nat.zero_add, List.nil_append, ← List.length_append, ← List.flatMap_append] at h5
                  refine (HK2.out _ w' (keeps_spots _ _ _ _ _ _ HX.out hw.1 hw.1.size) (own_draws HLL.out h5)).mono ?_
                  rintro e w2 ⟨rfl, hb⟩
                  exact ⟨_, rfl, fun r' hr hv => ⟨rfl, hw.1.trans (hb.mono hw.1.size), (by intro h; cases h), (by intro h; cases h), (by intro h; cases h)⟩⟩
                · refine obR_val (want_is hEA (g := 11) (x := true) (b := true) rfl rfl rfl rfl) (by kernel_rfl) (fun ph w' hp hpm hw => ?_)
                  have e84 : Fr.tmps[84]? = some (.string (tx K)) := hEA.dst 12 _ 84 rfl rfl; have e94 : Fr.tmps[94]? = some (.string (tx K)) := hEA.dst 22 _ 94 rfl rfl; simp [execOp, e84, e94, go_sem]
                · refine obR_val (want_none rfl) (by kernel_rfl) (fun ph w' hp hpm hw => ?_)
                  have e83 : Fr.tmps[83]? = some (.bool true) := hEA.dst 11 _ 83 rfl rfl; have e95 : Fr.tmps[95]? = some (.bool true) := hEA.dst 23 _ 95 rfl rfl; simp [execOp, e83, e95, go_sem]
                · exact obR_move _ rfl (want_none rfl) (by kernel_rfl) (eval_dst hEA (j := 24) rfl rfl)
                · exact obR_move _ rfl (want_is hEA (g := 25) (x := true) (b := true) rfl rfl rfl rfl) (by kernel_rfl) (eval_out hEA (d := 7) (by kernel_rfl))
                · exact obR_move _ rfl (want_is hEA (g := 25) (x := true) (b := true) rfl rfl rfl rfl) (by kernel_rfl) (eval_dst hEA (j := 26) rfl rfl)
                · exact obR_move _ rfl (want_is hEA (g := 27) (x := false) (b := false) rfl rfl rfl rfl) (by kernel_rfl) (eval_out hEA (d := 10) (by kernel_rfl))
                · refine obR_val (want_is hEA (g := 27) (x := false) (b := false) rfl rfl rfl rfl) (by kernel_rfl) (fun ph w' hp hpm hw => ?_)
                  have e100 : Fr.tmps[100]? = some (.string (tx K)) := hEA.dst 28 _ 100 rfl rfl; simp [execOp, e100, hek, go_sem]
                · refine obR_val (want_is hEA (g := 25) (x := true) (b := true) rfl rfl rfl rfl) (by kernel_rfl) (fun ph w' hp hpm hw => ?_)
                  have e99 : Fr.tmps[99]? = some (.bool false) := hEA.dst 27 _ 99 rfl rfl; have e101 : Fr.tmps[101]? = some (.bool true) := hEA.dst 29 _ 101 rfl rfl; simp [execOp, e99, e101, go_sem]
                · refine obR_val (want_none rfl) (by kernel_rfl) (fun ph w' hp hpm hw => ?_)
                  have e97 : Fr.tmps[97]? = some (.bool true) := hEA.dst 25 _ 97 rfl rfl; have e102 : Fr.tmps[102]? = some (.bool true) := hEA.dst 30 _ 102 rfl rfl; simp [execOp, e97, e102, go_sem]
                · exact obR_move _ rfl (want_none rfl) (by kernel_rfl) (eval_dst hEA (j := 31) rfl rfl)
                · exact obR_move _ rfl (want_is hEA (g := 32) (x := true) (b := true) rfl rfl rfl rfl) (by kernel_rfl) (eval_out hEA (d := 7) (by kernel_rfl))
                · refine obR_val (want_is hEA (g := 32) (x := true) (b := true) rfl rfl rfl rfl) (by kernel_rfl) (fun ph w' hp hpm hw => ?_)
                  have e105 : Fr.tmps[105]? = some (.bool false) := hEA.dst 33 _ 105 rfl rfl; simp [execOp, e105, go_sem]
                · exact obR_move _ rfl (want_is hEA (g := 32) (x := true) (b := true) rfl rfl rfl rfl) (by kernel_rfl) (eval_dst hEA (j := 34) rfl rfl)
                · exact obR_skip (want_is hEA (g := 35) (x := true) (b := false) rfl rfl rfl rfl) (by kernel_rfl) rfl
                · exact obR_skip (want_is hEA (g := 35) (x := true) (b := false) rfl rfl rfl rfl) (by kernel_rfl) rfl
                · refine obR_val (want_is hEA (g := 32) (x := true) (b := true) rfl rfl rfl rfl) (by kernel_rfl) (fun ph w' hp hpm hw => ?_)
                  have e107 : Fr.tmps[107]? = some (.bool true) := hEA.dst 35 _ 107 rfl rfl; have e109 : Fr.tmps[109]? = some (undef) := hEA.dst 37 _ 109 rfl rfl; simp [execOp, e107, e109, go_sem]
                · exact obR_move _ rfl (want_is hEA (g := 32) (x := true) (b := true) rfl rfl rfl rfl) (by kernel_rfl) (eval_dst hEA (j := 38) rfl rfl)
                · exact obR_skip (want_is hEA (g := 39) (x := true) (b := false) rfl rfl rfl rfl) (by kernel_rfl) rfl
                · exact obR_skip (want_is hEA (g := 39) (x := true) (b := false) rfl rfl rfl rfl) (by kernel_rfl) rfl
                · refine obR_val (want_is hEA (g := 32) (x := true) (b := true) rfl rfl rfl rfl) (by kernel_rfl) (fun ph w' hp hpm hw => ?_)
                  have e111 : Fr.tmps[111]? = some (.bool true) := hEA.dst 39 _ 111 rfl rfl; have e113 : Fr.tmps[113]? = some (undef) := hEA.dst 41 _ 113 rfl rfl; simp [execOp, e111, e113, go_sem]
                · refine obR_val (want_none rfl) (by kernel_rfl) (fun ph w' hp hpm hw => ?_)
                  have e104 : Fr.tmps[104]? = some (.bool true) := hEA.dst 32 _ 104 rfl rfl; have e114 : Fr.tmps[114]? = some (.bool true) := hEA.dst 42 _ 114 rfl rfl; simp [execOp, e104, e114, go_sem]
                · refine obR_val (want_none rfl) (by kernel_rfl) (fun ph w' hp hpm hw => ?_)
                  have e115 : Fr.tmps[115]? = some (.bool true) := hEA.dst 43 _ 115 rfl rfl; simp [execOp, e115, go_sem]
              · intro r w' hw
                simp only [laid, Act.put, List.setIfInBounds_toArray, List.set_cons_succ, List.set_cons_zero, List.getD_cons_succ, List.getD_cons_zero, Nat.zero_add, Nat.reduceAdd]
                go_wp2
                go_ret
                exact ⟨rfl, B.trans (hw.1.mono B.size)⟩
            | true =>
              have hK0 : K ≠ [] := HY1.out (by rw [P_0]; decide) rfl
              rw [decide_eq_false hK0] at hek
              clear hK0 HN1 HY1 hd
              have qb00 := b0.c 0 _ rfl
              go_wp2_with fail
              refine wp_region_results (fun r i => ([.bool true, .bool true, .string (tx K), .pointer (some ⟨G0, 0, none⟩), .int .i64 0, .pointer (some ⟨G0, 1, none⟩), .slice Ax lx cx, .slice au lu cu, .string (tx K), .bool true, .bool true, .bool true, .string (tx K), .pointer (some ⟨G0, 0, none⟩), .int .i64 0, .pointer (some ⟨G0, 1, none⟩), .slice Ax lx cx, (r 2), .slice au lu cu, (r 3), .slice am ml mc, (r 4), .string (tx K), .bool true, .bool true, .bool true, .bool true, .bool true, undef, undef, .bool true, .bool true, .bool true, .bool true, .bool false, .bool false, .bool true, .bool false, .bool false, .bool false, .string (tx K), .bool true, .bool true, .bool true, .bool true] : List Value).getD i undef) [0, 8, 17, 19, 21, 22] [0, 1, 1, 1, 1, 1, 1, 1, 1, 2, 2, 2, 2, 2, 2, 2, 2, 2, 2, 3, 2, 4, 5, 6, 6, 6, 6, 6, 6, 6, 6, 6, 6, 6, 6, 6, 6, 6, 6, 6, 6, 6, 6, 6, 6] (fun r q w' => Below V1.heap.size V1 w' ∧ (q = 3 → w'.ownsRow V1.heap.size 41 4 (r 2) 0 []) ∧ (q = 4 → w'.ownsRow V1.heap.size 41 4 (r 3) (0 + od.length) ([] ++ od.flatMap dC)) ∧ (q = 5 → w'.ownsRow V1.heap.size 41 4 (r 4) (0 + od.length + es.length) ([] ++ od.flatMap dC ++ es.flatMap dC))) (by kernel_rfl) (by kernel_rfl) (fun r => ⟨⟨rfl, rfl, rfl, Nat.le_refl _, fun _ _ => rfl⟩, (by intro h; cases h), (by intro h; cases h), (by intro h; cases h)⟩) ?_ ?_
              · refine ObsR_of_ends (by kernel_rfl) ?_
                intro r Fr hEA
                refine ⟨?_, ?_, ?_, ?_, ?_, ?_, ?_, ?_, ?_, ?_, ?_, ?_, ?_, ?_, ?_, ?_, ?_, ?_, ?_, ?_, ?_, ?_, ?_, ?_, ?_, ?_, ?_, ?_, ?_, ?_, ?_, ?_, ?_, ?_, ?_, ?_, ?_, ?_, ?_, ?_, ?_, ?_, ?_, ?_, ?_, trivial⟩
                · refine obR_call (q := 0) (f := 9) (args := #[]) (want_none rfl) (by kernel_rfl) (fun w' => by simp [go_sem]) ?_
                  intro w' hw
                  refine (awake14_any w' (HTT.out _ (B.trans (hw.1.mono B.size)))).mono ?_
                  rintro e w2 ⟨rfl, hb⟩
                  exact ⟨_, rfl, fun r' hr hv => ⟨rfl, hw.1.trans (hb.mono hw.1.size), (by intro h; cases h), (by intro h; cases h), (by intro h; cases h)⟩⟩
                · exact obR_move _ rfl (want_none rfl) (by kernel_rfl) (eval_dst hEA (j := 0) rfl rfl)
                · exact obR_move _ rfl (want_is hEA (g := 1) (x := true) (b := true) rfl rfl rfl rfl) (by kernel_rfl) (eval_out hEA (d := 10) (by kernel_rfl))
                · refine obR_val (want_is hEA (g := 1) (x := true) (b := true) rfl rfl rfl rfl) (by kernel_rfl) (fun ph w' hp hpm hw => ?_)
                  have e2 : Fr.tmps[2]? = some (.pointer (some ⟨G0, 0, none⟩)) := at_out hEA (d := 2) (by kernel_rfl); simp [execOp, e2, go_sem]
                · refine obR_val (want_is hEA (g := 1) (x := true) (b := true) rfl rfl rfl rfl) (by kernel_rfl) (fun ph w' hp hpm hw => ?_)
                  have hc0 := (hw.1.cell (p := ⟨G0, 0, none⟩) b0.lt).trans (b0.c 0 _ rfl)
                  have e75 : Fr.tmps[75]? = some (.pointer (some ⟨G0, 0, none⟩)) := hEA.dst 3 _ 75 rfl rfl; simp [execOp, e75, hc0, go_sem]
                · refine obR_val (want_is hEA (g := 1) (x := true) (b := true) rfl rfl rfl rfl) (by kernel_rfl) (fun ph w' hp hpm hw => ?_)
                  have e2 : Fr.tmps[2]? = some (.pointer (some ⟨G0, 0, none⟩)) := at_out hEA (d := 2) (by kernel_rfl); simp [execOp, e2, go_sem]
                · refine obR_val (want_is hEA (g := 1) (x := true) (b := true) rfl rfl rfl rfl) (by kernel_rfl) (fun ph w' hp hpm hw => ?_)
                  have hc0 := (hw.1.cell (p := ⟨G0, 1, none⟩) b0.lt).trans (b0.c 1 _ rfl)
                  have e77 : Fr.tmps[77]? = some (.pointer (some ⟨G0, 1, none⟩)) := hEA.dst 5 _ 77 rfl rfl; simp [execOp, e77, hc0, go_sem]
                · exact obR_move _ rfl (want_is hEA (g := 1) (x := true) (b := true) rfl rfl rfl rfl) (by kernel_rfl) (eval_out hEA (d := 5) (by kernel_rfl))
                · refine obR_call (q := 1) (f := 10) (args := #[.int .i64 0, .slice Ax lx cx, .slice au lu cu]) (want_is hEA (g := 1) (x := true) (b := true) rfl rfl rfl rfl) (by kernel_rfl) (fun w' => by have e76 : Fr.tmps[76]? = some (.int .i64 0) := hEA.dst 4 _ 76 rfl rfl; have e78 : Fr.tmps[78]? = some (.slice Ax lx cx) := hEA.dst 6 _ 78 rfl rfl; have e79 : Fr.tmps[79]? = some (.slice au lu cu) := hEA.dst 7 _ 79 rfl rfl; simp [e76, e78, e79, go_sem]) ?_
                  intro w' hw
                  refine (HK1.out _ w' (keeps_spots _ _ _ _ _ _ HX.out hw.1 hw.1.size) (keeps_draws _ _ _ _ _ _ HW.out hw.1 hw.1.size)).mono ?_
                  rintro e w2 ⟨rfl, hb⟩
                  exact ⟨_, rfl, fun r' hr hv => ⟨rfl, hw.1.trans (hb.mono hw.1.size), (by intro h; cases h), (by intro h; cases h), (by intro h; cases h)⟩⟩
                · refine obR_val (want_is hEA (g := 1) (x := true) (b := true) rfl rfl rfl rfl) (by kernel_rfl) (fun ph w' hp hpm hw => ?_)
                  have e74 : Fr.tmps[74]? = some (.string (tx K)) := hEA.dst 2 _ 74 rfl rfl; have e80 : Fr.tmps[80]? = some (.string (tx K)) := hEA.dst 8 _ 80 rfl rfl; simp [execOp, e74, e80, go_sem]
                · refine obR_val (want_none rfl) (by kernel_rfl) (fun ph w' hp hpm hw => ?_)
                  have e73 : Fr.tmps[73]? = some (.bool true) := hEA.dst 1 _ 73 rfl rfl; have e81 : Fr.tmps[81]? = some (.bool true) := hEA.dst 9 _ 81 rfl rfl; simp [execOp, e73, e81, go_sem]
                · exact obR_move _ rfl (want_none rfl) (by kernel_rfl) (eval_dst hEA (j := 10) rfl rfl)
                · exact obR_move _ rfl (want_is hEA (g := 11) (x := true) (b := true) rfl rfl rfl rfl) (by kernel_rfl) (eval_out hEA (d := 10) (by kernel_rfl))
                · refine obR_val (want_is hEA (g := 11) (x := true) (b := true) rfl rfl rfl rfl) (by kernel_rfl) (fun ph w' hp hpm hw => ?_)
                  have e2 : Fr.tmps[2]? = some (.pointer (some ⟨G0, 0, none⟩)) := at_out hEA (d := 2) (by kernel_rfl); simp [execOp, e2, go_sem]
                · refine obR_val (want_is hEA (g := 11) (x := true) (b := true) rfl rfl rfl rfl) (by kernel_rfl) (fun ph w' hp hpm hw => ?_)
                  have hc0 := (hw.1.cell (p := ⟨G0, 0, none⟩) b0.lt).trans (b0.c 0 _ rfl)
                  have e85 : Fr.tmps[85]? = some (.pointer (some ⟨G0, 0, none⟩)) := hEA.dst 13 _ 85 rfl rfl; simp [execOp, e85, hc0, go_sem]
                · refine obR_val (want_is hEA (g := 11) (x := true) (b := true) rfl rfl rfl rfl) (by kernel_rfl) (fun ph w' hp hpm hw => ?_)
                  have e2 : Fr.tmps[2]? = some (.pointer (some ⟨G0, 0, none⟩)) := at_out hEA (d := 2) (by kernel_rfl); simp [execOp, e2, go_sem]
                · refine obR_val (want_is hEA (g := 11) (x := true) (b := true) rfl rfl rfl rfl) (by kernel_rfl) (fun ph w' hp hpm hw => ?_)
                  have hc0 := (hw.1.cell (p := ⟨G0, 1, none⟩) b0.lt).trans (b0.c 1 _ rfl)
                  have e87 : Fr.tmps[87]? = some (.pointer (some ⟨G0, 1, none⟩)) := hEA.dst 15 _ 87 rfl rfl; simp [execOp, e87, hc0, go_sem]
                · refine obR_make (q := 2) (want_is hEA (g := 11) (x := true) (b := true) rfl rfl rfl rfl) (by kernel_rfl) (fun w' hw => ?_)
                  exact ⟨.slice (some ⟨w'.heap.size, 0, none⟩) 0 0, w'.alloc (.cells #[] 41), by simp [execOp, go_sem], fun r' hr hv => ⟨hv, hw.1.alloc hw.1.size _, fun _ => by rw [hv]; exact owns_empty w' _ 4 hw.1.size, (by intro h; cases h), (by intro h; cases h)⟩⟩
                · exact obR_move _ rfl (want_is hEA (g := 11) (x := true) (b := true) rfl rfl rfl rfl) (by kernel_rfl) (eval_out hEA (d := 5) (by kernel_rfl))
                · refine obR_make (q := 3) (want_is hEA (g := 11) (x := true) (b := true) rfl rfl rfl rfl) (by kernel_rfl) (fun w' hw => ?_)
                  exact run_append_draws_then w' (.tmp 89) (.tmp 90) rfl V1.heap.size (r 2) 0 [] (eval_dst hEA (j := 17) rfl rfl) (hw.2.1 rfl) w'.heap.size _ od (eval_dst hEA (j := 18) rfl rfl) (keeps_draws _ _ _ _ _ _ HW.out hw.1 hw.1.size) hsz0 hw.1.size (fun v' w3 hown hg r' hr hv => ⟨hv, hw.1.grown hg hw.1.size (fun k hk => ((hw.2.1 rfl).lt k hk).1), (by intro h; cases h), (fun _ => by rw [hv]; exact hown), (by intro h; cases h)⟩)
                · exact obR_move _ rfl (want_is hEA (g := 11) (x := true) (b := true) rfl rfl rfl rfl) (by kernel_rfl) (eval_out hEA (d := 1) (by kernel_rfl))
                · refine obR_make (q := 4) (want_is hEA (g := 11) (x := true) (b := true) rfl rfl rfl rfl) (by kernel_rfl) (fun w' hw => ?_)
                  exact run_append_draws_then w' (.tmp 91) (.tmp 92) rfl V1.heap.size (r 3) _ _ (eval_dst hEA (j := 19) rfl rfl) (hw.2.2.1 rfl) w'.heap.size _ es (eval_dst hEA (j := 20) rfl rfl) (keeps_draws _ _ _ _ _ _ HE.out hw.1 hw.1.size) hsz hw.1.size (fun v' w3 hown hg r' hr hv => ⟨hv, hw.1.grown hg hw.1.size (fun k hk => ((hw.2.2.1 rfl).lt k hk).1), (by intro h; cases h), (by intro h; cases h), (fun _ => by rw [hv]; exact hown)⟩)
                · refine obR_call (q := 5) (f := 10) (args := #[.int .i64 0, .slice Ax lx cx, (r 4)]) (want_is hEA (g := 11) (x := true) (b := true) rfl rfl rfl rfl) (by kernel_rfl) (fun w' => by have e86 : Fr.tmps[86]? = some (.int .i64 0) := hEA.dst 14 _ 86 rfl rfl; have e88 : Fr.tmps[88]? = some (.slice Ax lx cx) := hEA.dst 16 _ 88 rfl rfl; have e93 : Fr.tmps[93]? = some ((r 4)) := hEA.dst 21 _ 93 rfl rfl; simp [e86, e88, e93, go_sem]) ?_
                  intro w' hw
                  have h5 := hw.2.2.2 rfl
                  rw [Nat.zero_add, List.nil_append, ← List.length_append, ← List.flatMap_append] at h5
                  refine (HK2.out _ w' (keeps_spots _ _ _ _ _ _ HX.out hw.1 hw.1.size) (own_draws HLL.out h5)).mono ?_
                  rintro e w2 ⟨rfl, hb⟩
                  exact ⟨_, rfl, fun r' hr hv => ⟨rfl, hw.1.trans (hb.mono hw.1.size), (by intro h; cases h), (by intro h; cases h), (by intro h; cases h)⟩⟩
                · refine obR_val (want_is hEA (g := 11) (x := true) (b := true) rfl rfl rfl rfl) (by kernel_rfl) (fun ph w' hp hpm hw => ?_)
                  have e84 : Fr.tmps[84]? = some (.string (tx K)) := hEA.dst 12 _ 84 rfl rfl; have e94 : Fr.tmps[94]? = some (.string (tx K)) := hEA.dst 22 _ 94 rfl rfl; simp [execOp, e84, e94, go_sem]
                · refine obR_val (want_none rfl) (by kernel_rfl) (fun ph w' hp hpm hw => ?_)
                  have e83 : Fr.tmps[83]? = some (.bool true) := hEA.dst 11 _ 83 rfl rfl; have e95 : Fr.tmps[95]? = some (.bool true) := hEA.dst 23 _ 95 rfl rfl; simp [execOp, e83, e95, go_sem]
                · exact obR_move _ rfl (want_none rfl) (by kernel_rfl) (eval_dst hEA (j := 24) rfl rfl)
                · exact obR_move _ rfl (want_is hEA (g := 25) (x := true) (b := true) rfl rfl rfl rfl) (by kernel_rfl) (eval_out hEA (d := 7) (by kernel_rfl))
                · exact obR_move _ rfl (want_is hEA (g := 25) (x := true) (b := true) rfl rfl rfl rfl) (by kernel_rfl) (eval_dst hEA (j := 26) rfl rfl)
                · exact obR_skip (want_is hEA (g := 27) (x := true) (b := false) rfl rfl rfl rfl) (by kernel_rfl) rfl
                · exact obR_skip (want_is hEA (g := 27) (x := true) (b := false) rfl rfl rfl rfl) (by kernel_rfl) rfl
                · refine obR_val (want_is hEA (g := 25) (x := true) (b := true) rfl rfl rfl rfl) (by kernel_rfl) (fun ph w' hp hpm hw => ?_)
                  have e99 : Fr.tmps[99]? = some (.bool true) := hEA.dst 27 _ 99 rfl rfl; have e101 : Fr.tmps[101]? = some (undef) := hEA.dst 29 _ 101 rfl rfl; simp [execOp, e99, e101, go_sem]
                · refine obR_val (want_none rfl) (by kernel_rfl) (fun ph w' hp hpm hw => ?_)
                  have e97 : Fr.tmps[97]? = some (.bool true) := hEA.dst 25 _ 97 rfl rfl; have e102 : Fr.tmps[102]? = some (.bool true) := hEA.dst 30 _ 102 rfl rfl; simp [execOp, e97, e102, go_sem]
                · exact obR_move _ rfl (want_none rfl) (by kernel_rfl) (eval_dst hEA (j := 31) rfl rfl)
                · exact obR_move _ rfl (want_is hEA (g := 32) (x := true) (b := true) rfl rfl rfl rfl) (by kernel_rfl) (eval_out hEA (d := 7) (by kernel_rfl))
                · refine obR_val (want_is hEA (g := 32) (x := true) (b := true) rfl rfl rfl rfl) (by kernel_rfl) (fun ph w' hp hpm hw => ?_)
                  have e105 : Fr.tmps[105]? = some (.bool true) := hEA.dst 33 _ 105 rfl rfl; simp [execOp, e105, go_sem]
                · exact obR_move _ rfl (want_is hEA (g := 32) (x := true) (b := true) rfl rfl rfl rfl) (by kernel_rfl) (eval_dst hEA (j := 34) rfl rfl)
                · exact obR_move _ rfl (want_is hEA (g := 35) (x := false) (b := false) rfl rfl rfl rfl) (by kernel_rfl) (eval_out hEA (d := 11) (by kernel_rfl))
                · refine obR_val (want_is hEA (g := 35) (x := false) (b := false) rfl rfl rfl rfl) (by kernel_rfl) (fun ph w' hp hpm hw => ?_)
                  have e108 : Fr.tmps[108]? = some (.bool true) := hEA.dst 36 _ 108 rfl rfl; simp [execOp, e108, go_sem]
                · refine obR_val (want_is hEA (g := 32) (x := true) (b := true) rfl rfl rfl rfl) (by kernel_rfl) (fun ph w' hp hpm hw => ?_)
                  have e107 : Fr.tmps[107]? = some (.bool false) := hEA.dst 35 _ 107 rfl rfl; have e109 : Fr.tmps[109]? = some (.bool false) := hEA.dst 37 _ 109 rfl rfl; simp [execOp, e107, e109, go_sem]
                · exact obR_move _ rfl (want_is hEA (g := 32) (x := true) (b := true) rfl rfl rfl rfl) (by kernel_rfl) (eval_dst hEA (j := 38) rfl rfl)
                · exact obR_move _ rfl (want_is hEA (g := 39) (x := false) (b := false) rfl rfl rfl rfl) (by kernel_rfl) (eval_out hEA (d := 10) (by kernel_rfl))
                · refine obR_val (want_is hEA (g := 39) (x := false) (b := false) rfl rfl rfl rfl) (by kernel_rfl) (fun ph w' hp hpm hw => ?_)
                  have e112 : Fr.tmps[112]? = some (.string (tx K)) := hEA.dst 40 _ 112 rfl rfl; simp [execOp, e112, hek, go_sem]
                · refine obR_val (want_is hEA (g := 32) (x := true) (b := true) rfl rfl rfl rfl) (by kernel_rfl) (fun ph w' hp hpm hw => ?_)
                  have e111 : Fr.tmps[111]? = some (.bool false) := hEA.dst 39 _ 111 rfl rfl; have e113 : Fr.tmps[113]? = some (.bool true) := hEA.dst 41 _ 113 rfl rfl; simp [execOp, e111, e113, go_sem]
                · refine obR_val (want_none rfl) (by kernel_rfl) (fun ph w' hp hpm hw => ?_)
                  have e104 : Fr.tmps[104]? = some (.bool true) := hEA.dst 32 _ 104 rfl rfl; have e114 : Fr.tmps[114]? = some (.bool true) := hEA.dst 42 _ 114 rfl rfl; simp [execOp, e104, e114, go_sem]
                · refine obR_val (want_none rfl) (by kernel_rfl) (fun ph w' hp hpm hw => ?_)
                  have e115 : Fr.tmps[115]? = some (.bool true) := hEA.dst 43 _ 115 rfl rfl; simp [execOp, e115, go_sem]
              · intro r w' hw
                simp only [laid, Act.put, List.setIfInBounds_toArray, List.set_cons_succ, List.set_cons_zero, List.getD_cons_succ, List.getD_cons_zero, Nat.zero_add, Nat.reduceAdd]
                go_wp2
                go_ret
                exact ⟨rfl, B.trans (hw.1.mono B.size)⟩
          · by_cases e1 : g = 1
            · subst e1
              cases ab with
              | false =>
                have hK0 : K = [] := HN1.out rfl
                rw [decide_eq_true hK0] at hek
                clear hK0 HN1 HY1 hd
                have qb00 := b0.c 0 _ rfl
                go_wp2_with fail
                refine wp_region_results (fun r i => ([.bool true, .bool true, .string (tx K), .pointer (some ⟨G0, 0, none⟩), .int .i64 1, .pointer (some ⟨G0, 1, none⟩), .slice Ax lx cx, .slice au lu cu, .string (tx K), .bool true, .bool true, .bool true, .string (tx K), .pointer (some ⟨G0, 0, none⟩), .int .i64 1, .pointer (some ⟨G0, 1, none⟩), .slice Ax lx cx, (r 2), .slice au lu cu, (r 3), .slice am ml mc, (r 4), .string (tx K), .bool true, .bool true, .bool true, .bool false, .bool false, .string (tx K), .bool true, .bool true, .bool true, .bool true, .bool false, .bool true, .bool true, undef, undef, .bool true, .bool true, undef, undef, .bool true, .bool true, .bool true] : List Value).getD i undef) [0, 8, 17, 19, 21, 22] [0, 1, 1, 1, 1, 1, 1, 1, 1, 2, 2, 2, 2, 2, 2, 2, 2, 2, 2, 3, 2, 4, 5, 6, 6, 6, 6, 6, 6, 6, 6, 6, 6, 6, 6, 6, 6, 6, 6, 6, 6, 6, 6, 6, 6] (fun r q w' => Below V1.heap.size V1 w' ∧ (q = 3 → w'.ownsRow V1.heap.size 41 4 (r 2) 0 []) ∧ (q = 4 → w'.ownsRow V1.heap.size 41 4 (r 3) (0 + od.length) ([] ++ od.flatMap dC)) ∧ (q = 5 → w'.ownsRow V1.heap.size 41 4 (r 4) (0 + od.length + es.length) ([] ++ od.flatMap dC ++ es.flatMap dC))) (by kernel_rfl) (by kernel_rfl) (fun r => ⟨⟨rfl, rfl, rfl, Nat.le_refl _, fun _ _ => rfl⟩, (by intro h; cases h), (by intro h; cases h), (by intro h; cases h)⟩) ?_ ?_
                · refine ObsR_of_ends (by kernel_rfl) ?_
                  intro r Fr hEA
                  refine ⟨?_, ?_, ?_, ?_, ?_, ?_, ?_, ?_, ?_, ?_, ?_, ?_, ?_, ?_, ?_, ?_, ?_, ?_, ?_, ?_, ?_, ?_, ?_, ?_, ?_, ?_, ?_, ?_, ?_, ?_, ?_, ?_, ?_, ?_, ?_, ?_, ?_, ?_, ?_, ?_, ?_, ?_, ?_, ?_, ?_, trivial⟩
                  · refine obR_call (q := 0) (f := 9) (args := #[]) (want_none rfl) (by kernel_rfl) (fun w' => by simp [go_sem]) ?_
                    intro w' hw
                    refine (awake14_any w' (HTT.out _ (B.trans (hw.1.mono B.size)))).mono ?_
                    rintro e w2 ⟨rfl, hb⟩
                    exact ⟨_, rfl, fun r' hr hv => ⟨rfl, hw.1.trans (hb.mono hw.1.size), (by intro h; cases h), (by intro h; cases h), (by intro h; cases h)⟩⟩
                  · exact obR_move _ rfl (want_none rfl) (by kernel_rfl) (eval_dst hEA (j := 0) rfl rfl)
                  · exact obR_move _ rfl (want_is hEA (g := 1) (x := true) (b := true) rfl rfl rfl rfl) (by kernel_rfl) (eval_out hEA (d := 10) (by kernel_rfl))
                  · refine obR_val (want_is hEA (g := 1) (x := true) (b := true) rfl rfl rfl rfl) (by kernel_rfl) (fun ph w' hp hpm hw => ?_)
                    have e2 : Fr.tmps[2]? = some (.pointer (some ⟨G0, 0, none⟩)) := at_out hEA (d := 2) (by kernel_rfl); simp [execOp, e2, go_sem]
                  · refine obR_val (want_is hEA (g := 1) (x := true) (b := true) rfl rfl rfl rfl) (by kernel_rfl) (fun ph w' hp hpm hw => ?_)
                    have hc0 := (hw.1.cell (p := ⟨G0, 0, none⟩) b0.lt).trans (b0.c 0 _ rfl)
                    have e75 : Fr.tmps[75]? = some (.pointer (some ⟨G0, 0, none⟩)) := hEA.dst 3 _ 75 rfl rfl; simp [execOp, e75, hc0, go_sem]
                  · refine obR_val (want_is hEA (g := 1) (x := true) (b := true) rfl rfl rfl rfl) (by kernel_rfl) (fun ph w' hp hpm hw => ?_)
                    have e2 : Fr.tmps[2]? = some (.pointer (some ⟨G0, 0, none⟩)) := at_out hEA (d := 2) (by kernel_rfl); simp [execOp, e2, go_sem]
                  · refine obR_val (want_is hEA (g := 1) (x := true) (b := true) rfl rfl rfl rfl) (by kernel_rfl) (fun ph w' hp hpm hw => ?_)
                    have hc0 := (hw.1.cell (p := ⟨G0, 1, none⟩) b0.lt).trans (b0.c 1 _ rfl)
                    have e77 : Fr.tmps[77]? = some (.pointer (some ⟨G0, 1, none⟩)) := hEA.dst 5 _ 77 rfl rfl; simp [execOp, e77, hc0, go_sem]
                  · exact obR_move _ rfl (want_is hEA (g := 1) (x := true) (b := true) rfl rfl rfl rfl) (by kernel_rfl) (eval_out hEA (d := 5) (by kernel_rfl))
                  · refine obR_call (q := 1) (f := 10) (args := #[.int .i64 1, .slice Ax lx cx, .slice au lu cu]) (want_is hEA (g := 1) (x := true) (b := true) rfl rfl rfl rfl) (by kernel_rfl) (fun w' => by have e76 : Fr.tmps[76]? = some (.int .i64 1) := hEA.dst 4 _ 76 rfl rfl; have e78 : Fr.tmps[78]? = some (.slice Ax lx cx) := hEA.dst 6 _ 78 rfl rfl; have e79 : Fr.tmps[79]? = some (.slice au lu cu) := hEA.dst 7 _ 79 rfl rfl; simp [e76, e78, e79, go_sem]) ?_
                    intro w' hw
                    refine (HK1.out _ w' (keeps_spots _ _ _ _ _ _ HX.out hw.1 hw.1.size) (keeps_draws _ _ _ _ _ _ HW.out hw.1 hw.1.size)).mono ?_
                    rintro e w2 ⟨rfl, hb⟩
                    exact ⟨_, rfl, fun r' hr hv => ⟨rfl, hw.1.trans (hb.mono hw.1.size), (by intro h; cases h), (by intro h; cases h), (by intro h; cases h)⟩⟩
                  · refine obR_val (want_is hEA (g := 1) (x := true) (b := true) rfl rfl rfl rfl) (by kernel_rfl) (fun ph w' hp hpm hw => ?_)
                    have e74 : Fr.tmps[74]? = some (.string (tx K)) := hEA.dst 2 _ 74 rfl rfl; have e80 : Fr.tmps[80]? = some (.string (tx K)) := hEA.dst 8 _ 80 rfl rfl; simp [execOp, e74, e80, go_sem]
                  · refine obR_val (want_none rfl) (by kernel_rfl) (fun ph w' hp hpm hw => ?_)
                    have e73 : Fr.tmps[73]? = some (.bool true) := hEA.dst 1 _ 73 rfl rfl; have e81 : Fr.tmps[81]? = some (.bool true) := hEA.dst 9 _ 81 rfl rfl; simp [execOp, e73, e81, go_sem]
                  · exact obR_move _ rfl (want_none rfl) (by kernel_rfl) (eval_dst hEA (j := 10) rfl rfl)
                  · exact obR_move _ rfl (want_is hEA (g := 11) (x := true) (b := true) rfl rfl rfl rfl) (by kernel_rfl) (eval_out hEA (d := 10) (by kernel_rfl))
                  · refine obR_val (want_is hEA (g := 11) (x := true) (b := true) rfl rfl rfl rfl) (by kernel_rfl) (fun ph w' hp hpm hw => ?_)
                    have e2 : Fr.tmps[2]? = some (.pointer (some ⟨G0, 0, none⟩)) := at_out hEA (d := 2) (by kernel_rfl); simp [execOp, e2, go_sem]
                  · refine obR_val (want_is hEA (g := 11) (x := true) (b := true) rfl rfl rfl rfl) (by kernel_rfl) (fun ph w' hp hpm hw => ?_)
                    have hc0 := (hw.1.cell (p := ⟨G0, 0, none⟩) b0.lt).trans (b0.c 0 _ rfl)
                    have e85 : Fr.tmps[85]? = some (.pointer (some ⟨G0, 0, none⟩)) := hEA.dst 13 _ 85 rfl rfl; simp [execOp, e85, hc0, go_sem]
                  · refine obR_val (want_is hEA (g := 11) (x := true) (b := true) rfl rfl rfl rfl) (by kernel_rfl) (fun ph w' hp hpm hw => ?_)
                    have e2 : Fr.tmps[2]? = some (.pointer (some ⟨G0, 0, none⟩)) := at_out hEA (d := 2) (by kernel_rfl); simp [execOp, e2, go_sem]
                  · refine obR_val (want_is hEA (g := 11) (x := true) (b := true) rfl rfl rfl rfl) (by kernel_rfl) (fun ph w' hp hpm hw => ?_)
                    have hc0 := (hw.1.cell (p := ⟨G0, 1, none⟩) b0.lt).trans (b0.c 1 _ rfl)
                    have e87 : Fr.tmps[87]? = some (.pointer (some ⟨G0, 1, none⟩)) := hEA.dst 15 _ 87 rfl rfl; simp [execOp, e87, hc0, go_sem]
                  · refine obR_make (q := 2) (want_is hEA (g := 11) (x := true) (b := true) rfl rfl rfl rfl) (by kernel_rfl) (fun w' hw => ?_)
                    exact ⟨.slice (some ⟨w'.heap.size, 0, none⟩) 0 0, w'.alloc (.cells #[] 41), by simp [execOp, go_sem], fun r' hr hv => ⟨hv, hw.1.alloc hw.1.size _, fun _ => by rw [hv]; exact owns_empty w' _ 4 hw.1.size, (by intro h; cases h), (by intro h; cases h)⟩⟩
                  · exact obR_move _ rfl (want_is hEA (g := 11) (x := true) (b := true) rfl rfl rfl rfl) (by kernel_rfl) (eval_out hEA (d := 5) (by kernel_rfl))
                  · refine obR_make (q := 3) (want_is hEA (g := 11) (x := true) (b := true) rfl rfl rfl rfl) (by kernel_rfl) (fun w' hw => ?_)
                    exact run_append_draws_then w' (.tmp 89) (.tmp 90) rfl V1.heap.size (r 2) 0 [] (eval_dst hEA (j := 17) rfl rfl) (hw.2.1 rfl) w'.heap.size _ od (eval_dst hEA (j := 18) rfl rfl) (keeps_draws _ _ _ _ _ _ HW.out hw.1 hw.1.size) hsz0 hw.1.size (fun v' w3 hown hg r' hr hv => ⟨hv, hw.1.grown hg hw.1.size (fun k hk => ((hw.2.1 rfl).lt k hk).1), (by intro h; cases h), (fun _ => by rw [hv]; exact hown), (by intro h; cases h)⟩)
                  · exact obR_move _ rfl (want_is hEA (g := 11) (x := true) (b := true) rfl rfl rfl rfl) (by kernel_rfl) (eval_out hEA (d := 1) (by kernel_rfl))
                  · refine obR_make (q := 4) (want_is hEA (g := 11) (x := true) (b := true) rfl rfl rfl rfl) (by kernel_rfl) (fun w' hw => ?_)
                    exact run_append_draws_then w' (.tmp 91) (.tmp 92) rfl V1.heap.size (r 3) _ _ (eval_dst hEA (j := 19) rfl rfl) (hw.2.2.1 rfl) w'.heap.size _ es (eval_dst hEA (j := 20) rfl rfl) (keeps_draws _ _ _ _ _ _ HE.out hw.1 hw.1.size) hsz hw.1.size (fun v' w3 hown hg r' hr hv => ⟨hv, hw.1.grown hg hw.1.size (fun k hk => ((hw.2.2.1 rfl).lt k hk).1), (by intro h; cases h), (by intro h; cases h), (fun _ => by rw [hv]; exact hown)⟩)
                  · refine obR_call (q := 5) (f := 10) (args := #[.int .i64 1, .slice Ax lx cx, (r 4)]) (want_is hEA (g := 11) (x := true) (b := true) rfl rfl rfl rfl) (by kernel_rfl) (fun w' => by have e86 : Fr.tmps[86]? = some (.int .i64 1) := hEA.dst 14 _ 86 rfl rfl; have e88 : Fr.tmps[88]? = some (.slice Ax lx cx) := hEA.dst 16 _ 88 rfl rfl; have e93 : Fr.tmps[93]? = some ((r 4)) := hEA.dst 21 _ 93 rfl rfl; simp [e86, e88, e93, go_sem]) ?_
                    intro w' hw
                    have h5 := hw.2.2.2 rfl
                    rw [Nat.zero_add, List.nil_append, ← List.length_append, ← List.flatMap_append] at h5
                    refine (HK2.out _ w' (keeps_spots _ _ _ _ _ _ HX.out hw.1 hw.1.size) (own_draws HLL.out h5)).mono ?_
                    rintro e w2 ⟨rfl, hb⟩
                    exact ⟨_, rfl, fun r' hr hv => ⟨rfl, hw.1.trans (hb.mono hw.1.size), (by intro h; cases h), (by intro h; cases h), (by intro h; cases h)⟩⟩
                  · refine obR_val (want_is hEA (g := 11) (x := true) (b := true) rfl rfl rfl rfl) (by kernel_rfl) (fun ph w' hp hpm hw => ?_)
                    have e84 : Fr.tmps[84]? = some (.string (tx K)) := hEA.dst 12 _ 84 rfl rfl; have e94 : Fr.tmps[94]? = some (.string (tx K)) := hEA.dst 22 _ 94 rfl rfl; simp [execOp, e84, e94, go_sem]
                  · refine obR_val (want_none rfl) (by kernel_rfl) (fun ph w' hp hpm hw => ?_)
                    have e83 : Fr.tmps[83]? = some (.bool true) := hEA.dst 11 _ 83 rfl rfl; have e95 : Fr.tmps[95]? = some (.bool true) := hEA.dst 23 _ 95 rfl rfl; simp [execOp, e83, e95, go_sem]
                  · exact obR_move _ rfl (want_none rfl) (by kernel_rfl) (eval_dst hEA (j := 24) rfl rfl)
                  · exact obR_move _ rfl (want_is hEA (g := 25) (x := true) (b := true) rfl rfl rfl rfl) (by kernel_rfl) (eval_out hEA (d := 7) (by kernel_rfl))
                  · exact obR_move _ rfl (want_is hEA (g := 25) (x := true) (b := true) rfl rfl rfl rfl) (by kernel_rfl) (eval_dst hEA (j := 26) rfl rfl)
                  · exact obR_move _ rfl (want_is hEA (g := 27) (x := false) (b := false) rfl rfl rfl rfl) (by kernel_rfl) (eval_out hEA (d := 10) (by kernel_rfl))
                  · refine obR_val (want_is hEA (g := 27) (x := false) (b := false) rfl rfl rfl rfl) (by kernel_rfl) (fun ph w' hp hpm hw => ?_)
                    have e100 : Fr.tmps[100]? = some (.string (tx K)) := hEA.dst 28 _ 100 rfl rfl; simp [execOp, e100, hek, go_sem]
                  · refine obR_val (want_is hEA (g := 25) (x := true) (b := true) rfl rfl rfl rfl) (by kernel_rfl) (fun ph w' hp hpm hw => ?_)
                    have e99 : Fr.tmps[99]? = some (.bool false) := hEA.dst 27 _ 99 rfl rfl; have e101 : Fr.tmps[101]? = some (.bool true) := hEA.dst 29 _ 101 rfl rfl; simp [execOp, e99, e101, go_sem]
                  · refine obR_val (want_none rfl) (by kernel_rfl) (fun ph w' hp hpm hw => ?_)
                    have e97 : Fr.tmps[97]? = some (.bool true) := hEA.dst 25 _ 97 rfl rfl; have e102 : Fr.tmps[102]? = some (.bool true) := hEA.dst 30 _ 102 rfl rfl; simp [execOp, e97, e102, go_sem]
                  · exact obR_move _ rfl (want_none rfl) (by kernel_rfl) (eval_dst hEA (j := 31) rfl rfl)
                  · exact obR_move _ rfl (want_is hEA (g := 32) (x := true) (b := true) rfl rfl rfl rfl) (by kernel_rfl) (eval_out hEA (d := 7) (by kernel_rfl))
                  · refine obR_val (want_is hEA (g := 32) (x := true) (b := true) rfl rfl rfl rfl) (by kernel_rfl) (fun ph w' hp hpm hw => ?_)
                    have e105 : Fr.tmps[105]? = some (.bool false) := hEA.dst 33 _ 105 rfl rfl; simp [execOp, e105, go_sem]
                  · exact obR_move _ rfl (want_is hEA (g := 32) (x := true) (b := true) rfl rfl rfl rfl) (by kernel_rfl) (eval_dst hEA (j := 34) rfl rfl)
                  · exact obR_skip (want_is hEA (g := 35) (x := true) (b := false) rfl rfl rfl rfl) (by kernel_rfl) rfl
                  · exact obR_skip (want_is hEA (g := 35) (x := true) (b := false) rfl rfl rfl rfl) (by kernel_rfl) rfl
                  · refine obR_val (want_is hEA (g := 32) (x := true) (b := true) rfl rfl rfl rfl) (by kernel_rfl) (fun ph w' hp hpm hw => ?_)
                    have e107 : Fr.tmps[107]? = some (.bool true) := hEA.dst 35 _ 107 rfl rfl; have e109 : Fr.tmps[109]? = some (undef) := hEA.dst 37 _ 109 rfl rfl; simp [execOp, e107, e109, go_sem]
                  · exact obR_move _ rfl (want_is hEA (g := 32) (x := true) (b := true) rfl rfl rfl rfl) (by kernel_rfl) (eval_dst hEA (j := 38) rfl rfl)
                  · exact obR_skip (want_is hEA (g := 39) (x := true) (b := false) rfl rfl rfl rfl) (by kernel_rfl) rfl
                  · exact obR_skip (want_is hEA (g := 39) (x := true) (b := false) rfl rfl rfl rfl) (by kernel_rfl) rfl
                  · refine obR_val (want_is hEA (g := 32) (x := true) (b := true) rfl rfl rfl rfl) (by kernel_rfl) (fun ph w' hp hpm hw => ?_)
                    have e111 : Fr.tmps[111]? = some (.bool true) := hEA.dst 39 _ 111 rfl rfl; have e113 : Fr.tmps[113]? = some (undef) := hEA.dst 41 _ 113 rfl rfl; simp [execOp, e111, e113, go_sem]
                  · refine obR_val (want_none rfl) (by kernel_rfl) (fun ph w' hp hpm hw => ?_)
                    have e104 : Fr.tmps[104]? = some (.bool true) := hEA.dst 32 _ 104 rfl rfl; have e114 : Fr.tmps[114]? = some (.bool true) := hEA.dst 42 _ 114 rfl rfl; simp [execOp, e104, e114, go_sem]
                  · refine obR_val (want_none rfl) (by kernel_rfl) (fun ph w' hp hpm hw => ?_)
                    have e115 : Fr.tmps[115]? = some (.bool true) := hEA.dst 43 _ 115 rfl rfl; simp [execOp, e115, go_sem]
                · intro r w' hw
                  simp only [laid, Act.put, List.setIfInBounds_toArray, List.set_cons_succ, List.set_cons_zero, List.getD_cons_succ, List.getD_cons_zero, Nat.zero_add, Nat.reduceAdd]
                  go_wp2
                  go_ret
                  exact ⟨rfl, B.trans (hw.1.mono B.size)⟩
              | true =>
                have hK0 : K ≠ [] := HY1.out (by rw [P_1]; decide) rfl
                rw [decide_eq_false hK0] at hek
                clear hK0 HN1 HY1 hd
                have qb00 := b0.c 0 _ rfl
                go_wp2_with fail
                refine wp_region_results (fun r i => ([.bool true, .bool true, .string (tx K), .pointer (some ⟨G0, 0, none⟩), .int .i64 1, .pointer (some ⟨G0, 1, none⟩), .slice Ax lx cx, .slice au lu cu, .string (tx K), .bool true, .bool true, .bool true, .string (tx K), .pointer (some ⟨G0, 0, none⟩), .int .i64 1, .pointer (some ⟨G0, 1, none⟩), .slice Ax lx cx, (r 2), .slice au lu cu, (r 3), .slice am ml mc, (r 4), .string (tx K), .bool true, .bool true, .bool true, .bool true, .bool true, undef, undef, .bool true, .bool true, .bool true, .bool true, .bool false, .bool false, .bool true, .bool false, .bool false, .bool false, .string (tx K), .bool true, .bool true, .bool true, .bool true] : List Value).getD i undef) [0, 8, 17, 19, 21, 22] [0, 1, 1, 1, 1, 1, 1, 1, 1, 2, 2, 2, 2, 2, 2, 2, 2, 2, 2, 3, 2, 4, 5, 6, 6, 6, 6, 6, 6, 6, 6, 6, 6, 6, 6, 6, 6, 6, 6, 6, 6, 6, 6, 6, 6] (fun r q w' => Below V1.heap.size V1 w' ∧ (q = 3 → w'.ownsRow V1.heap.size 41 4 (r 2) 0 []) ∧ (q = 4 → w'.ownsRow V1.heap.size 41 4 (r 3) (0 + od.length) ([] ++ od.flatMap dC)) ∧ (q = 5 → w'.ownsRow V1.heap.size 41 4 (r 4) (0 + od.length + es.length) ([] ++ od.flatMap dC ++ es.flatMap dC))) (by kernel_rfl) (by kernel_rfl) (fun r => ⟨⟨rfl, rfl, rfl, Nat.le_refl _, fun _ _ => rfl⟩, (by intro h; cases h), (by intro h; cases h), (by intro h; cases h)⟩) ?_ ?_
                · refine ObsR_of_ends (by kernel_rfl) ?_
                  intro r Fr hEA
                  refine ⟨?_, ?_, ?_, ?_, ?_, ?_, ?_, ?_, ?_, ?_, ?_, ?_, ?_, ?_, ?_, ?_, ?_, ?_, ?_, ?_, ?_, ?_, ?_, ?_, ?_, ?_, ?_, ?_, ?_, ?_, ?_, ?_, ?_, ?_, ?_, ?_, ?_, ?_, ?_, ?_, ?_, ?_, ?_, ?_, ?_, trivial⟩
                  · refine obR_call (q := 0) (f := 9) (args := #[]) (want_none rfl) (by kernel_rfl) (fun w' => by simp [go_sem]) ?_
                    intro w' hw
                    refine (awake14_any w' (HTT.out _ (B.trans (hw.1.mono B.size)))).mono ?_
                    rintro e w2 ⟨rfl, hb⟩
                    exact ⟨_, rfl, fun r' hr hv => ⟨rfl, hw.1.trans (hb.mono hw.1.size), (by intro h; cases h), (by intro h; cases h), (by intro h; cases h)⟩⟩
                  · exact obR_move _ rfl (want_none rfl) (by kernel_rfl) (eval_dst hEA (j := 0) rfl rfl)
                  · exact obR_move _ rfl (want_is hEA (g := 1) (x := true) (b := true) rfl rfl rfl rfl) (by kernel_rfl) (eval_out hEA (d := 10) (by kernel_rfl))
                  · refine obR_val (want_is hEA (g := 1) (x := true) (b := true) rfl rfl rfl rfl) (by kernel_rfl) (fun ph w' hp hpm hw => ?_)
                    have e2 : Fr.tmps[2]? = some (.pointer (some ⟨G0, 0, none⟩)) := at_out hEA (d := 2) (by kernel_rfl); simp [execOp, e2, go_sem]
                  · refine obR_val (want_is hEA (g := 1) (x := true) (b := true) rfl rfl rfl rfl) (by kernel_rfl) (fun ph w' hp hpm hw => ?_)
                    have hc0 := (hw.1.cell (p := ⟨G0, 0, none⟩) b0.lt).trans (b0.c 0 _ rfl)
                    have e75 : Fr.tmps[75]? = some (.pointer (some ⟨G0, 0, none⟩)) := hEA.dst 3 _ 75 rfl rfl; simp [execOp, e75, hc0, go_sem]
                  · refine obR_val (want_is hEA (g := 1) (x := true) (b := true) rfl rfl rfl rfl) (by kernel_rfl) (fun ph w' hp hpm hw => ?_)
                    have e2 : Fr.tmps[2]? = some (.pointer (some ⟨G0, 0, none⟩)) := at_out hEA (d := 2) (by kernel_rfl); simp [execOp, e2, go_sem]
                  · refine obR_val (want_is hEA (g := 1) (x := true) (b := true) rfl rfl rfl rfl) (by kernel_rfl) (fun ph w' hp hpm hw => ?_)
                    have hc0 := (hw.1.cell (p := ⟨G0, 1, none⟩) b0.lt).trans (b0.c 1 _ rfl)
                    have e77 : Fr.tmps[77]? = some (.pointer (some ⟨G0, 1, none⟩)) := hEA.dst 5 _ 77 rfl rfl; simp [execOp, e77, hc0, go_sem]
                  · exact obR_move _ rfl (want_is hEA (g := 1) (x := true) (b := true) rfl rfl rfl rfl) (by kernel_rfl) (eval_out hEA (d := 5) (by kernel_rfl))
                  · refine obR_call (q := 1) (f := 10) (args := #[.int .i64 1, .slice Ax lx cx, .slice au lu cu]) (want_is hEA (g := 1) (x := true) (b := true) rfl rfl rfl rfl) (by kernel_rfl) (fun w' => by have e76 : Fr.tmps[76]? = some (.int .i64 1) := hEA.dst 4 _ 76 rfl rfl; have e78 : Fr.tmps[78]? = some (.slice Ax lx cx) := hEA.dst 6 _ 78 rfl rfl; have e79 : Fr.tmps[79]? = some (.slice au lu cu) := hEA.dst 7 _ 79 rfl rfl; simp [e76, e78, e79, go_sem]) ?_
                    intro w' hw
                    refine (HK1.out _ w' (keeps_spots _ _ _ _ _ _ HX.out hw.1 hw.1.size) (keeps_draws _ _ _ _ _ _ HW.out hw.1 hw.1.size)).mono ?_
                    rintro e w2 ⟨rfl, hb⟩
                    exact ⟨_, rfl, fun r' hr hv => ⟨rfl, hw.1.trans (hb.mono hw.1.size), (by intro h; cases h), (by intro h; cases h), (by intro h; cases h)⟩⟩
                  · refine obR_val (want_is hEA (g := 1) (x := true) (b := true) rfl rfl rfl rfl) (by kernel_rfl) (fun ph w' hp hpm hw => ?_)
                    have e74 : Fr.tmps[74]? = some (.string (tx K)) := hEA.dst 2 _ 74 rfl rfl; have e80 : Fr.tmps[80]? = some (.string (tx K)) := hEA.dst 8 _ 80 rfl rfl; simp [execOp, e74, e80, go_sem]
                  · refine obR_val (want_none rfl) (by kernel_rfl) (fun ph w' hp hpm hw => ?_)
                    have e73 : Fr.tmps[73]? = some (.bool true) := hEA.dst 1 _ 73 rfl rfl; have e81 : Fr.tmps[81]? = some (.bool true) := hEA.dst 9 _ 81 rfl rfl; simp [execOp, e73, e81, go_sem]
                  · exact obR_move _ rfl (want_none rfl) (by kernel_rfl) (eval_dst hEA (j := 10) rfl rfl)
                  · exact obR_move _ rfl (want_is hEA (g := 11) (x := true) (b := true) rfl rfl rfl rfl) (by kernel_rfl) (eval_out hEA (d := 10) (by kernel_rfl))
                  · refine obR_val (want_is hEA (g := 11) (x := true) (b := true) rfl rfl rfl rfl) (by kernel_rfl) (fun ph w' hp hpm hw => ?_)
                    have e2 : Fr.tmps[2]? = some (.pointer (some ⟨G0, 0, none⟩)) := at_out hEA (d := 2) (by kernel_rfl); simp [execOp, e2, go_sem]
                  · refine obR_val (want_is hEA (g := 11) (x := true) (b := true) rfl rfl rfl rfl) (by kernel_rfl) (fun ph w' hp hpm hw => ?_)
                    have hc0 := (hw.1.cell (p := ⟨G0, 0, none⟩) b0.lt).trans (b0.c 0 _ rfl)
                    have e85 : Fr.tmps[85]? = some (.pointer (some ⟨G0, 0, none⟩)) := hEA.dst 13 _ 85 rfl rfl; simp [execOp, e85, hc0, go_sem]
                  · refine obR_val (want_is hEA (g := 11) (x := true) (b := true) rfl rfl rfl rfl) (by kernel_rfl) (fun ph w' hp hpm hw => ?_)
                    have e2 : Fr.tmps[2]? = some (.pointer (some ⟨G0, 0, none⟩)) := at_out hEA (d := 2) (by kernel_rfl); simp [execOp, e2, go_sem]
                  · refine obR_val (want_is hEA (g := 11) (x := true) (b := true) rfl rfl rfl rfl) (by kernel_rfl) (fun ph w' hp hpm hw => ?_)
                    have hc0 := (hw.1.cell (p := ⟨G0, 1, none⟩) b0.lt).trans (b0.c 1 _ rfl)
                    have e87 : Fr.tmps[87]? = some (.pointer (some ⟨G0, 1, none⟩)) := hEA.dst 15 _ 87 rfl rfl; simp [execOp, e87, hc0, go_sem]
                  · refine obR_make (q := 2) (want_is hEA (g := 11) (x := true) (b := true) rfl rfl rfl rfl) (by kernel_rfl) (fun w' hw => ?_)
                    exact ⟨.slice (some ⟨w'.heap.size, 0, none⟩) 0 0, w'.alloc (.cells #[] 41), by simp [execOp, go_sem], fun r' hr hv => ⟨hv, hw.1.alloc hw.1.size _, fun _ => by rw [hv]; exact owns_empty w' _ 4 hw.1.size, (by intro h; cases h), (by intro h; cases h)⟩⟩
                  · exact obR_move _ rfl (want_is hEA (g := 11) (x := true) (b := true) rfl rfl rfl rfl) (by kernel_rfl) (eval_out hEA (d := 5) (by kernel_rfl))
                  · refine obR_make (q := 3) (want_is hEA (g := 11) (x := true) (b := true) rfl rfl rfl rfl) (by kernel_rfl) (fun w' hw => ?_)
                    exact run_append_draws_then w' (.tmp 89) (.tmp 90) rfl V1.heap.size (r 2) 0 [] (eval_dst hEA (j := 17) rfl rfl) (hw.2.1 rfl) w'.heap.size _ od (eval_dst hEA (j := 18) rfl rfl) (keeps_draws _ _ _ _ _ _ HW.out hw.1 hw.1.size) hsz0 hw.1.size (fun v' w3 hown hg r' hr hv => ⟨hv, hw.1.grown hg hw.1.size (fun k hk => ((hw.2.1 rfl).lt k hk).1), (by intro h; cases h), (fun _ => by rw [hv]; exact hown), (by intro h; cases h)⟩)
                  · exact obR_move _ rfl (want_is hEA (g := 11) (x := true) (b := true) rfl rfl rfl rfl) (by kernel_rfl) (eval_out hEA (d := 1) (by kernel_rfl))
                  · refine obR_make (q := 4) (want_is hEA (g := 11) (x := true) (b := true) rfl rfl rfl rfl) (by kernel_rfl) (fun w' hw => ?_)
                    exact run_append_draws_then w' (.tmp 91) (.tmp 92) rfl V1.heap.size (r 3) _ _ (eval_dst hEA (j := 19) rfl rfl) (hw.2.2.1 rfl) w'.heap.size _ es (eval_dst hEA (j := 20) rfl rfl) (keeps_draws _ _ _ _ _ _ HE.out hw.1 hw.1.size) hsz hw.1.size (fun v' w3 hown hg r' hr hv => ⟨hv, hw.1.grown hg hw.1.size (fun k hk => ((hw.2.2.1 rfl).lt k hk).1), (by intro h; cases h), (by intro h; cases h), (fun _ => by rw [hv]; exact hown)⟩)
                  · refine obR_call (q := 5) (f := 10) (args := #[.int .i64 1, .slice Ax lx cx, (r 4)]) (want_is hEA (g := 11) (x := true) (b := true) rfl rfl rfl rfl) (by kernel_rfl) (fun w' => by have e86 : Fr.tmps[86]? = some (.int .i64 1) := hEA.dst 14 _ 86 rfl rfl; have e88 : Fr.tmps[88]? = some (.slice Ax lx cx) := hEA.dst 16 _ 88 rfl rfl; have e93 : Fr.tmps[93]? = some ((r 4)) := hEA.dst 21 _ 93 rfl rfl; simp [e86, e88, e93, go_sem]) ?_
                    intro w' hw
                    have h5 := hw.2.2.2 rfl
                    rw [Nat.zero_add, List.nil_append, ← List.length_append, ← List.flatMap_append] at h5
                    refine (HK2.out _ w' (keeps_spots _ _ _ _ _ _ HX.out hw.1 hw.1.size) (own_draws HLL.out h5)).mono ?_
                    rintro e w2 ⟨rfl, hb⟩
                    exact ⟨_, rfl, fun r' hr hv => ⟨rfl, hw.1.trans (hb.mono hw.1.size), (by intro h; cases h), (by intro h; cases h), (by intro h; cases h)⟩⟩
                  · refine obR_val (want_is hEA (g := 11) (x := true) (b := true) rfl rfl rfl rfl) (by kernel_rfl) (fun ph w' hp hpm hw => ?_)
                    have e84 : Fr.tmps[84]? = some (.string (tx K)) := hEA.dst 12 _ 84 rfl rfl; have e94 : Fr.tmps[94]? = some (.string (tx K)) := hEA.dst 22 _ 94 rfl rfl; simp [execOp, e84, e94, go_sem]
                  · refine obR_val (want_none rfl) (by kernel_rfl) (fun ph w' hp hpm hw => ?_)
                    have e83 : Fr.tmps[83]? = some (.bool true) := hEA.dst 11 _ 83 rfl rfl; have e95 : Fr.tmps[95]? = some (.bool true) := hEA.dst 23 _ 95 rfl rfl; simp [execOp, e83, e95, go_sem]
                  · exact obR_move _ rfl (want_none rfl) (by kernel_rfl) (eval_dst hEA (j := 24) rfl rfl)
                  · exact obR_move _ rfl (want_is hEA (g := 25) (x := true) (b := true) rfl rfl rfl rfl) (by kernel_rfl) (eval_out hEA (d := 7) (by kernel_rfl))
                  · exact obR_move _ rfl (want_is hEA (g := 25) (x := true) (b := true) rfl rfl rfl rfl) (by kernel_rfl) (eval_dst hEA (j := 26) rfl rfl)
                  · exact obR_skip (want_is hEA (g := 27) (x := true) (b := false) rfl rfl rfl rfl) (by kernel_rfl) rfl
                  · exact obR_skip (want_is hEA (g := 27) (x := true) (b := false) rfl rfl rfl rfl) (by kernel_rfl) rfl
                  · refine obR_val (want_is hEA (g := 25) (x := true) (b := true) rfl rfl rfl rfl) (by kernel_rfl) (fun ph w' hp hpm hw => ?_)
                    have e99 : Fr.tmps[99]? = some (.bool true) := hEA.dst 27 _ 99 rfl rfl; have e101 : Fr.tmps[101]? = some (undef) := hEA.dst 29 _ 101 rfl rfl; simp [execOp, e99, e101, go_sem]
                  · refine obR_val (want_none rfl) (by kernel_rfl) (fun ph w' hp hpm hw => ?_)
                    have e97 : Fr.tmps[97]? = some (.bool true) := hEA.dst 25 _ 97 rfl rfl; have e102 : Fr.tmps[102]? = some (.bool true) := hEA.dst 30 _ 102 rfl rfl; simp [execOp, e97, e102, go_sem]
                  · exact obR_move _ rfl (want_none rfl) (by kernel_rfl) (eval_dst hEA (j := 31) rfl rfl)
                  · exact obR_move _ rfl (want_is hEA (g := 32) (x := true) (b := true) rfl rfl rfl rfl) (by kernel_rfl) (eval_out hEA (d := 7) (by kernel_rfl))
                  · refine obR_val (want_is hEA (g := 32) (x := true) (b := true) rfl rfl rfl rfl) (by kernel_rfl) (fun ph w' hp hpm hw => ?_)
                    have e105 : Fr.tmps[105]? = some (.bool true) := hEA.dst 33 _ 105 rfl rfl; simp [execOp, e105, go_sem]
                  · exact obR_move _ rfl (want_is hEA (g := 32) (x := true) (b := true) rfl rfl rfl rfl) (by kernel_rfl) (eval_dst hEA (j := 34) rfl rfl)
                  · exact obR_move _ rfl (want_is hEA (g := 35) (x := false) (b := false) rfl rfl rfl rfl) (by kernel_rfl) (eval_out hEA (d := 11) (by kernel_rfl))
                  · refine obR_val (want_is hEA (g := 35) (x := false) (b := false) rfl rfl rfl rfl) (by kernel_rfl) (fun ph w' hp hpm hw => ?_)
                    have e108 : Fr.tmps[108]? = some (.bool true) := hEA.dst 36 _ 108 rfl rfl; simp [execOp, e108, go_sem]
                  · refine obR_val (want_is hEA (g := 32) (x := true) (b := true) rfl rfl rfl rfl) (by kernel_rfl) (fun ph w' hp hpm hw => ?_)
                    have e107 : Fr.tmps[107]? = some (.bool false) := hEA.dst 35 _ 107 rfl rfl; have e109 : Fr.tmps[109]? = some (.bool false) := hEA.dst 37 _ 109 rfl rfl; simp [execOp, e107, e109, go_sem]
                  · exact obR_move _ rfl (want_is hEA (g := 32) (x := true) (b := true) rfl rfl rfl rfl) (by kernel_rfl) (eval_dst hEA (j := 38) rfl rfl)
                  · exact obR_move _ rfl (want_is hEA (g := 39) (x := false) (b := false) rfl rfl rfl rfl) (by kernel_rfl) (eval_out hEA (d := 10) (by kernel_rfl))
                  · refine obR_val (want_is hEA (g := 39) (x := false) (b := false) rfl rfl rfl rfl) (by kernel_rfl) (fun ph w' hp hpm hw => ?_)
                    have e112 : Fr.tmps[112]? = some (.string (tx K)) := hEA.dst 40 _ 112 rfl rfl; simp [execOp, e112, hek, go_sem]
                  · refine obR_val (want_is hEA (g := 32) (x := true) (b := true) rfl rfl rfl rfl) (by kernel_rfl) (fun ph w' hp hpm hw => ?_)
                    have e111 : Fr.tmps[111]? = some (.bool false) := hEA.dst 39 _ 111 rfl rfl; have e113 : Fr.tmps[113]? = some (.bool true) := hEA.dst 41 _ 113 rfl rfl; simp [execOp, e111, e113, go_sem]
                  · refine obR_val (want_none rfl) (by kernel_rfl) (fun ph w' hp hpm hw => ?_)
                    have e104 : Fr.tmps[104]? = some (.bool true) := hEA.dst 32 _ 104 rfl rfl; have e114 : Fr.tmps[114]? = some (.bool true) := hEA.dst 42 _ 114 rfl rfl; simp [execOp, e104, e114, go_sem]
                  · refine obR_val (want_none rfl) (by kernel_rfl) (fun ph w' hp hpm hw => ?_)
                    have e115 : Fr.tmps[115]? = some (.bool true) := hEA.dst 43 _ 115 rfl rfl; simp [execOp, e115, go_sem]
                · intro r w' hw
                  simp only [laid, Act.put, List.setIfInBounds_toArray, List.set_cons_succ, List.set_cons_zero, List.getD_cons_succ, List.getD_cons_zero, Nat.zero_add, Nat.reduceAdd]
                  go_wp2
                  go_ret
                  exact ⟨rfl, B.trans (hw.1.mono B.size)⟩
            · have hg0 : (g == 0) = false := by rw [beq_eq_false_iff_ne]; exact e0
              have hg1 : (g == 1) = false := by rw [beq_eq_false_iff_ne]; exact e1
              clear e0 e1
              cases ab with
              | false =>
                have hK0 : K = [] := HN1.out rfl
                rw [decide_eq_true hK0] at hek
                clear hK0 HN1 HY1 hd
                have qb00 := b0.c 0 _ rfl
                go_wp2_with fail
                refine wp_region_results (fun r i => ([.bool true, .bool true, .string (tx K), .pointer (some ⟨G0, 0, none⟩), .int .i64 g, .pointer (some ⟨G0, 1, none⟩), .slice Ax lx cx, .slice au lu cu, .string (tx K), .bool true, .bool true, .bool true, .string (tx K), .pointer (some ⟨G0, 0, none⟩), .int .i64 g, .pointer (some ⟨G0, 1, none⟩), .slice Ax lx cx, (r 2), .slice au lu cu, (r 3), .slice am ml mc, (r 4), .string (tx K), .bool true, .bool true, .bool true, .bool false, .bool false, .string (tx K), .bool true, .bool true, .bool true, .bool true, .bool false, .bool true, .bool true, undef, undef, .bool true, .bool true, undef, undef, .bool true, .bool true, .bool true] : List Value).getD i undef) [0, 8, 17, 19, 21, 22] [0, 1, 1, 1, 1, 1, 1, 1, 1, 2, 2, 2, 2, 2, 2, 2, 2, 2, 2, 3, 2, 4, 5, 6, 6, 6, 6, 6, 6, 6, 6, 6, 6, 6, 6, 6, 6, 6, 6, 6, 6, 6, 6, 6, 6] (fun r q w' => Below V1.heap.size V1 w' ∧ (q = 3 → w'.ownsRow V1.heap.size 41 4 (r 2) 0 []) ∧ (q = 4 → w'.ownsRow V1.heap.size 41 4 (r 3) (0 + od.length) ([] ++ od.flatMap dC)) ∧ (q = 5 → w'.ownsRow V1.heap.size 41 4 (r 4) (0 + od.length + es.length) ([] ++ od.flatMap dC ++ es.flatMap dC))) (by kernel_rfl) (by kernel_rfl) (fun r => ⟨⟨rfl, rfl, rfl, Nat.le_refl _, fun _ _ => rfl⟩, (by intro h; cases h), (by intro h; cases h), (by intro h; cases h)⟩) ?_ ?_
                · refine ObsR_of_ends (by kernel_rfl) ?_
                  intro r Fr hEA
                  refine ⟨?_, ?_, ?_, ?_, ?_, ?_, ?_, ?_, ?_, ?_, ?_, ?_, ?_, ?_, ?_, ?_, ?_, ?_, ?_, ?_, ?_, ?_, ?_, ?_, ?_, ?_, ?_, ?_, ?_, ?_, ?_, ?_, ?_, ?_, ?_, ?_, ?_, ?_, ?_, ?_, ?_, ?_, ?_, ?_, ?_, trivial⟩
                  · refine obR_call (q := 0) (f := 9) (args := #[]) (want_none rfl) (by kernel_rfl) (fun w' => by simp [go_sem]) ?_
                    intro w' hw
                    refine (awake14_any w' (HTT.out _ (B.trans (hw.1.mono B.size)))).mono ?_
                    rintro e w2 ⟨rfl, hb⟩
                    exact ⟨_, rfl, fun r' hr hv => ⟨rfl, hw.1.trans (hb.mono hw.1.size), (by intro h; cases h), (by intro h; cases h), (by intro h; cases h)⟩⟩
                  · exact obR_move _ rfl (want_none rfl) (by kernel_rfl) (eval_dst hEA (j := 0) rfl rfl)
                  · exact obR_move _ rfl (want_is hEA (g := 1) (x := true) (b := true) rfl rfl rfl rfl) (by kernel_rfl) (eval_out hEA (d := 10) (by kernel_rfl))
                  · refine obR_val (want_is hEA (g := 1) (x := true) (b := true) rfl rfl rfl rfl) (by kernel_rfl) (fun ph w' hp hpm hw => ?_)
                    have e2 : Fr.tmps[2]? = some (.pointer (some ⟨G0, 0, none⟩)) := at_out hEA (d := 2) (by kernel_rfl); simp [execOp, e2, go_sem]
                  · refine obR_val (want_is hEA (g := 1) (x := true) (b := true) rfl rfl rfl rfl) (by kernel_rfl) (fun ph w' hp hpm hw => ?_)
                    have hc0 := (hw.1.cell (p := ⟨G0, 0, none⟩) b0.lt).trans (b0.c 0 _ rfl)
                    have e75 : Fr.tmps[75]? = some (.pointer (some ⟨G0, 0, none⟩)) := hEA.dst 3 _ 75 rfl rfl; simp [execOp, e75, hc0, go_sem]
                  · refine obR_val (want_is hEA (g := 1) (x := true) (b := true) rfl rfl rfl rfl) (by kernel_rfl) (fun ph w' hp hpm hw => ?_)
                    have e2 : Fr.tmps[2]? = some (.pointer (some ⟨G0, 0, none⟩)) := at_out hEA (d := 2) (by kernel_rfl); simp [execOp, e2, go_sem]
                  · refine obR_val (want_is hEA (g := 1) (x := true) (b := true) rfl rfl rfl rfl) (by kernel_rfl) (fun ph w' hp hpm hw => ?_)
                    have hc0 := (hw.1.cell (p := ⟨G0, 1, none⟩) b0.lt).trans (b0.c 1 _ rfl)
                    have e77 : Fr.tmps[77]? = some (.pointer (some ⟨G0, 1, none⟩)) := hEA.dst 5 _ 77 rfl rfl; simp [execOp, e77, hc0, go_sem]
                  · exact obR_move _ rfl (want_is hEA (g := 1) (x := true) (b := true) rfl rfl rfl rfl) (by kernel_rfl) (eval_out hEA (d := 5) (by kernel_rfl))
                  · refine obR_call (q := 1) (f := 10) (args := #[.int .i64 g, .slice Ax lx cx, .slice au lu cu]) (want_is hEA (g := 1) (x := true) (b := true) rfl rfl rfl rfl) (by kernel_rfl) (fun w' => by have e76 : Fr.tmps[76]? = some (.int .i64 g) := hEA.dst 4 _ 76 rfl rfl; have e78 : Fr.tmps[78]? = some (.slice Ax lx cx) := hEA.dst 6 _ 78 rfl rfl; have e79 : Fr.tmps[79]? = some (.slice au lu cu) := hEA.dst 7 _ 79 rfl rfl; simp [e76, e78, e79, go_sem]) ?_
                    intro w' hw
                    refine (HK1.out _ w' (keeps_spots _ _ _ _ _ _ HX.out hw.1 hw.1.size) (keeps_draws _ _ _ _ _ _ HW.out hw.1 hw.1.size)).mono ?_
                    rintro e w2 ⟨rfl, hb⟩
                    exact ⟨_, rfl, fun r' hr hv => ⟨rfl, hw.1.trans (hb.mono hw.1.size), (by intro h; cases h), (by intro h; cases h), (by intro h; cases h)⟩⟩
                  · refine obR_val (want_is hEA (g := 1) (x := true) (b := true) rfl rfl rfl rfl) (by kernel_rfl) (fun ph w' hp hpm hw => ?_)
                    have e74 : Fr.tmps[74]? = some (.string (tx K)) := hEA.dst 2 _ 74 rfl rfl; have e80 : Fr.tmps[80]? = some (.string (tx K)) := hEA.dst 8 _ 80 rfl rfl; simp [execOp, e74, e80, go_sem]
                  · refine obR_val (want_none rfl) (by kernel_rfl) (fun ph w' hp hpm hw => ?_)
                    have e73 : Fr.tmps[73]? = some (.bool true) := hEA.dst 1 _ 73 rfl rfl; have e81 : Fr.tmps[81]? = some (.bool true) := hEA.dst 9 _ 81 rfl rfl; simp [execOp, e73, e81, go_sem]
                  · exact obR_move _ rfl (want_none rfl) (by kernel_rfl) (eval_dst hEA (j := 10) rfl rfl)
                  · exact obR_move _ rfl (want_is hEA (g := 11) (x := true) (b := true) rfl rfl rfl rfl) (by kernel_rfl) (eval_out hEA (d := 10) (by kernel_rfl))
                  · refine obR_val (want_is hEA (g := 11) (x := true) (b := true) rfl rfl rfl rfl) (by kernel_rfl) (fun ph w' hp hpm hw => ?_)
                    have e2 : Fr.tmps[2]? = some (.pointer (some ⟨G0, 0, none⟩)) := at_out hEA (d := 2) (by kernel_rfl); simp [execOp, e2, go_sem]
                  · refine obR_val (want_is hEA (g := 11) (x := true) (b := true) rfl rfl rfl rfl) (by kernel_rfl) (fun ph w' hp hpm hw => ?_)
                    have hc0 := (hw.1.cell (p := ⟨G0, 0, none⟩) b0.lt).trans (b0.c 0 _ rfl)
                    have e85 : Fr.tmps[85]? = some (.pointer (some ⟨G0, 0, none⟩)) := hEA.dst 13 _ 85 rfl rfl; simp [execOp, e85, hc0, go_sem]
                  · refine obR_val (want_is hEA (g := 11) (x := true) (b := true) rfl rfl rfl rfl) (by kernel_rfl) (fun ph w' hp hpm hw => ?_)
                    have e2 : Fr.tmps[2]? = some (.pointer (some ⟨G0, 0, none⟩)) := at_out hEA (d := 2) (by kernel_rfl); simp [execOp, e2, go_sem]
                  · refine obR_val (want_is hEA (g := 11) (x := true) (b := true) rfl rfl rfl rfl) (by kernel_rfl) (fun ph w' hp hpm hw => ?_)
                    have hc0 := (hw.1.cell (p := ⟨G0, 1, none⟩) b0.lt).trans (b0.c 1 _ rfl)
                    have e87 : Fr.tmps[87]? = some (.pointer (some ⟨G0, 1, none⟩)) := hEA.dst 15 _ 87 rfl rfl; simp [execOp, e87, hc0, go_sem]
                  · refine obR_make (q := 2) (want_is hEA (g := 11) (x := true) (b := true) rfl rfl rfl rfl) (by kernel_rfl) (fun w' hw => ?_)
                    exact ⟨.slice (some ⟨w'.heap.size, 0, none⟩) 0 0, w'.alloc (.cells #[] 41), by simp [execOp, go_sem], fun r' hr hv => ⟨hv, hw.1.alloc hw.1.size _, fun _ => by rw [hv]; exact owns_empty w' _ 4 hw.1.size, (by intro h; cases h), (by intro h; cases h)⟩⟩
                  · exact obR_move _ rfl (want_is hEA (g := 11) (x := true) (b := true) rfl rfl rfl rfl) (by kernel_rfl) (eval_out hEA (d := 5) (by kernel_rfl))
                  · refine obR_make (q := 3) (want_is hEA (g := 11) (x := true) (b := true) rfl rfl rfl rfl) (by kernel_rfl) (fun w' hw => ?_)
                    exact run_append_draws_then w' (.tmp 89) (.tmp 90) rfl V1.heap.size (r 2) 0 [] (eval_dst hEA (j := 17) rfl rfl) (hw.2.1 rfl) w'.heap.size _ od (eval_dst hEA (j := 18) rfl rfl) (keeps_draws _ _ _ _ _ _ HW.out hw.1 hw.1.size) hsz0 hw.1.size (fun v' w3 hown hg r' hr hv => ⟨hv, hw.1.grown hg hw.1.size (fun k hk => ((hw.2.1 rfl).lt k hk).1), (by intro h; cases h), (fun _ => by rw [hv]; exact hown), (by intro h; cases h)⟩)
                  · exact obR_move _ rfl (want_is hEA (g := 11) (x := true) (b := true) rfl rfl rfl rfl) (by kernel_rfl) (eval_out hEA (d := 1) (by kernel_rfl))
                  · refine obR_make (q := 4) (want_is hEA (g := 11) (x := true) (b := true) rfl rfl rfl rfl) (by kernel_rfl) (fun w' hw => ?_)
                    exact run_append_draws_then w' (.tmp 91) (.tmp 92) rfl V1.heap.size (r 3) _ _ (eval_dst hEA (j := 19) rfl rfl) (hw.2.2.1 rfl) w'.heap.size _ es (eval_dst hEA (j := 20) rfl rfl) (keeps_draws _ _ _ _ _ _ HE.out hw.1 hw.1.size) hsz hw.1.size (fun v' w3 hown hg r' hr hv => ⟨hv, hw.1.grown hg hw.1.size (fun k hk => ((hw.2.2.1 rfl).lt k hk).1), (by intro h; cases h), (by intro h; cases h), (fun _ => by rw [hv]; exact hown)⟩)
                  · refine obR_call (q := 5) (f := 10) (args := #[.int .i64 g, .slice Ax lx cx, (r 4)]) (want_is hEA (g := 11) (x := true) (b := true) rfl rfl rfl rfl) (by kernel_rfl) (fun w' => by have e86 : Fr.tmps[86]? = some (.int .i64 g) := hEA.dst 14 _ 86 rfl rfl; have e88 : Fr.tmps[88]? = some (.slice Ax lx cx) := hEA.dst 16 _ 88 rfl rfl; have e93 : Fr.tmps[93]? = some ((r 4)) := hEA.dst 21 _ 93 rfl rfl; simp [e86, e88, e93, go_sem]) ?_
                    intro w' hw
                    have h5 := hw.2.2.2 rfl
                    rw [Nat.zero_add, List.nil_append, ← List.length_append, ← List.flatMap_append] at h5
                    refine (HK2.out _ w' (keeps_spots _ _ _ _ _ _ HX.out hw.1 hw.1.size) (own_draws HLL.out h5)).mono ?_
                    rintro e w2 ⟨rfl, hb⟩
                    exact ⟨_, rfl, fun r' hr hv => ⟨rfl, hw.1.trans (hb.mono hw.1.size), (by intro h; cases h), (by intro h; cases h), (by intro h; cases h)⟩⟩
                  · refine obR_val (want_is hEA (g := 11) (x := true) (b := true) rfl rfl rfl rfl) (by kernel_rfl) (fun ph w' hp hpm hw => ?_)
                    have e84 : Fr.tmps[84]? = some (.string (tx K)) := hEA.dst 12 _ 84 rfl rfl; have e94 : Fr.tmps[94]? = some (.string (tx K)) := hEA.dst 22 _ 94 rfl rfl; simp [execOp, e84, e94, go_sem]
                  · refine obR_val (want_none rfl) (by kernel_rfl) (fun ph w' hp hpm hw => ?_)
                    have e83 : Fr.tmps[83]? = some (.bool true) := hEA.dst 11 _ 83 rfl rfl; have e95 : Fr.tmps[95]? = some (.bool true) := hEA.dst 23 _ 95 rfl rfl; simp [execOp, e83, e95, go_sem]
                  · exact obR_move _ rfl (want_none rfl) (by kernel_rfl) (eval_dst hEA (j := 24) rfl rfl)
                  · exact obR_move _ rfl (want_is hEA (g := 25) (x := true) (b := true) rfl rfl rfl rfl) (by kernel_rfl) (eval_out hEA (d := 7) (by kernel_rfl))
                  · exact obR_move _ rfl (want_is hEA (g := 25) (x := true) (b := true) rfl rfl rfl rfl) (by kernel_rfl) (eval_dst hEA (j := 26) rfl rfl)
                  · exact obR_move _ rfl (want_is hEA (g := 27) (x := false) (b := false) rfl rfl rfl rfl) (by kernel_rfl) (eval_out hEA (d := 10) (by kernel_rfl))
                  · refine obR_val (want_is hEA (g := 27) (x := false) (b := false) rfl rfl rfl rfl) (by kernel_rfl) (fun ph w' hp hpm hw => ?_)
                    have e100 : Fr.tmps[100]? = some (.string (tx K)) := hEA.dst 28 _ 100 rfl rfl; simp [execOp, e100, hek, go_sem]
                  · refine obR_val (want_is hEA (g := 25) (x := true) (b := true) rfl rfl rfl rfl) (by kernel_rfl) (fun ph w' hp hpm hw => ?_)
                    have e99 : Fr.tmps[99]? = some (.bool false) := hEA.dst 27 _ 99 rfl rfl; have e101 : Fr.tmps[101]? = some (.bool true) := hEA.dst 29 _ 101 rfl rfl; simp [execOp, e99, e101, go_sem]
                  · refine obR_val (want_none rfl) (by kernel_rfl) (fun ph w' hp hpm hw => ?_)
                    have e97 : Fr.tmps[97]? = some (.bool true) := hEA.dst 25 _ 97 rfl rfl; have e102 : Fr.tmps[102]? = some (.bool true) := hEA.dst 30 _ 102 rfl rfl; simp [execOp, e97, e102, go_sem]
                  · exact obR_move _ rfl (want_none rfl) (by kernel_rfl) (eval_dst hEA (j := 31) rfl rfl)
                  · exact obR_move _ rfl (want_is hEA (g := 32) (x := true) (b := true) rfl rfl rfl rfl) (by kernel_rfl) (eval_out hEA (d := 7) (by kernel_rfl))
                  · refine obR_val (want_is hEA (g := 32) (x := true) (b := true) rfl rfl rfl rfl) (by kernel_rfl) (fun ph w' hp hpm hw => ?_)
                    have e105 : Fr.tmps[105]? = some (.bool false) := hEA.dst 33 _ 105 rfl rfl; simp [execOp, e105, go_sem]
                  · exact obR_move _ rfl (want_is hEA (g := 32) (x := true) (b := true) rfl rfl rfl rfl) (by kernel_rfl) (eval_dst hEA (j := 34) rfl rfl)
                  · exact obR_skip (want_is hEA (g := 35) (x := true) (b := false) rfl rfl rfl rfl) (by kernel_rfl) rfl
                  · exact obR_skip (want_is hEA (g := 35) (x := true) (b := false) rfl rfl rfl rfl) (by kernel_rfl) rfl
                  · refine obR_val (want_is hEA (g := 32) (x := true) (b := true) rfl rfl rfl rfl) (by kernel_rfl) (fun ph w' hp hpm hw => ?_)
                    have e107 : Fr.tmps[107]? = some (.bool true) := hEA.dst 35 _ 107 rfl rfl; have e109 : Fr.tmps[109]? = some (undef) := hEA.dst 37 _ 109 rfl rfl; simp [execOp, e107, e109, go_sem]
                  · exact obR_move _ rfl (want_is hEA (g := 32) (x := true) (b := true) rfl rfl rfl rfl) (by kernel_rfl) (eval_dst hEA (j := 38) rfl rfl)
                  · exact obR_skip (want_is hEA (g := 39) (x := true) (b := false) rfl rfl rfl rfl) (by kernel_rfl) rfl
                  · exact obR_skip (want_is hEA (g := 39) (x := true) (b := false) rfl rfl rfl rfl) (by kernel_rfl) rfl
                  · refine obR_val (want_is hEA (g := 32) (x := true) (b := true) rfl rfl rfl rfl) (by kernel_rfl) (fun ph w' hp hpm hw => ?_)
                    have e111 : Fr.tmps[111]? = some (.bool true) := hEA.dst 39 _ 111 rfl rfl; have e113 : Fr.tmps[113]? = some (undef) := hEA.dst 41 _ 113 rfl rfl; simp [execOp, e111, e113, go_sem]
                  · refine obR_val (want_none rfl) (by kernel_rfl) (fun ph w' hp hpm hw => ?_)
                    have e104 : Fr.tmps[104]? = some (.bool true) := hEA.dst 32 _ 104 rfl rfl; have e114 : Fr.tmps[114]? = some (.bool true) := hEA.dst 42 _ 114 rfl rfl; simp [execOp, e104, e114, go_sem]
                  · refine obR_val (want_none rfl) (by kernel_rfl) (fun ph w' hp hpm hw => ?_)
                    have e115 : Fr.tmps[115]? = some (.bool true) := hEA.dst 43 _ 115 rfl rfl; simp [execOp, e115, go_sem]
                · intro r w' hw
                  simp only [laid, Act.put, List.setIfInBounds_toArray, List.set_cons_succ, List.set_cons_zero, List.getD_cons_succ, List.getD_cons_zero, Nat.zero_add, Nat.reduceAdd]
                  go_wp2
                  go_ret
                  exact ⟨rfl, B.trans (hw.1.mono B.size)⟩
              | true =>
                clear HN1 HY1 hd
                have qb00 := b0.c 0 _ rfl
                go_wp2_with fail
                refine wp_region_results (fun r i => ([.bool true, .bool true, .string (tx K), .pointer (some ⟨G0, 0, none⟩), .int .i64 g, .pointer (some ⟨G0, 1, none⟩), .slice Ax lx cx, .slice au lu cu, .string (tx K), .bool true, .bool true, .bool true, .string (tx K), .pointer (some ⟨G0, 0, none⟩), .int .i64 g, .pointer (some ⟨G0, 1, none⟩), .slice Ax lx cx, (r 2), .slice au lu cu, (r 3), .slice am ml mc, (r 4), .string (tx K), .bool true, .bool true, .bool true, .bool true, .bool true, undef, undef, .bool true, .bool true, .bool true, .bool true, .bool false, .bool false, .bool false, .bool true, .bool true, .bool true, undef, undef, .bool true, .bool true, .bool true] : List Value).getD i undef) [0, 8, 17, 19, 21, 22] [0, 1, 1, 1, 1, 1, 1, 1, 1, 2, 2, 2, 2, 2, 2, 2, 2, 2, 2, 3, 2, 4, 5, 6, 6, 6, 6, 6, 6, 6, 6, 6, 6, 6, 6, 6, 6, 6, 6, 6, 6, 6, 6, 6, 6] (fun r q w' => Below V1.heap.size V1 w' ∧ (q = 3 → w'.ownsRow V1.heap.size 41 4 (r 2) 0 []) ∧ (q = 4 → w'.ownsRow V1.heap.size 41 4 (r 3) (0 + od.length) ([] ++ od.flatMap dC)) ∧ (q = 5 → w'.ownsRow V1.heap.size 41 4 (r 4) (0 + od.length + es.length) ([] ++ od.flatMap dC ++ es.flatMap dC))) (by kernel_rfl) (by kernel_rfl) (fun r => ⟨⟨rfl, rfl, rfl, Nat.le_refl _, fun _ _ => rfl⟩, (by intro h; cases h), (by intro h; cases h), (by intro h; cases h)⟩) ?_ ?_
                · refine ObsR_of_ends (by kernel_rfl) ?_
                  intro r Fr hEA
                  refine ⟨?_, ?_, ?_, ?_, ?_, ?_, ?_, ?_, ?_, ?_, ?_, ?_, ?_, ?_, ?_, ?_, ?_, ?_, ?_, ?_, ?_, ?_, ?_, ?_, ?_, ?_, ?_, ?_, ?_, ?_, ?_, ?_, ?_, ?_, ?_, ?_, ?_, ?_, ?_, ?_, ?_, ?_, ?_, ?_, ?_, trivial⟩
                  · refine obR_call (q := 0) (f := 9) (args := #[]) (want_none rfl) (by kernel_rfl) (fun w' => by simp [go_sem]) ?_
                    intro w' hw
                    refine (awake14_any w' (HTT.out _ (B.trans (hw.1.mono B.size)))).mono ?_
                    rintro e w2 ⟨rfl, hb⟩
                    exact ⟨_, rfl, fun r' hr hv => ⟨rfl, hw.1.trans (hb.mono hw.1.size), (by intro h; cases h), (by intro h; cases h), (by intro h; cases h)⟩⟩
                  · exact obR_move _ rfl (want_none rfl) (by kernel_rfl) (eval_dst hEA (j := 0) rfl rfl)
                  · exact obR_move _ rfl (want_is hEA (g := 1) (x := true) (b := true) rfl rfl rfl rfl) (by kernel_rfl) (eval_out hEA (d := 10) (by kernel_rfl))
                  · refine obR_val (want_is hEA (g := 1) (x := true) (b := true) rfl rfl rfl rfl) (by kernel_rfl) (fun ph w' hp hpm hw => ?_)
                    have e2 : Fr.tmps[2]? = some (.pointer (some ⟨G0, 0, none⟩)) := at_out hEA (d := 2) (by kernel_rfl); simp [execOp, e2, go_sem]
                  · refine obR_val (want_is hEA (g := 1) (x := true) (b := true) rfl rfl rfl rfl) (by kernel_rfl) (fun ph w' hp hpm hw => ?_)
                    have hc0 := (hw.1.cell (p := ⟨G0, 0, none⟩) b0.lt).trans (b0.c 0 _ rfl)
                    have e75 : Fr.tmps[75]? = some (.pointer (some ⟨G0, 0, none⟩)) := hEA.dst 3 _ 75 rfl rfl; simp [execOp, e75, hc0, go_sem]
                  · refine obR_val (want_is hEA (g := 1) (x := true) (b := true) rfl rfl rfl rfl) (by kernel_rfl) (fun ph w' hp hpm hw => ?_)
                    have e2 : Fr.tmps[2]? = some (.pointer (some ⟨G0, 0, none⟩)) := at_out hEA (d := 2) (by kernel_rfl); simp [execOp, e2, go_sem]
                  · refine obR_val (want_is hEA (g := 1) (x := true) (b := true) rfl rfl rfl rfl) (by kernel_rfl) (fun ph w' hp hpm hw => ?_)
                    have hc0 := (hw.1.cell (p := ⟨G0, 1, none⟩) b0.lt).trans (b0.c 1 _ rfl)
                    have e77 : Fr.tmps[77]? = some (.pointer (some ⟨G0, 1, none⟩)) := hEA.dst 5 _ 77 rfl rfl; simp [execOp, e77, hc0, go_sem]
                  · exact obR_move _ rfl (want_is hEA (g := 1) (x := true) (b := true) rfl rfl rfl rfl) (by kernel_rfl) (eval_out hEA (d := 5) (by kernel_rfl))
                  · refine obR_call (q := 1) (f := 10) (args := #[.int .i64 g, .slice Ax lx cx, .slice au lu cu]) (want_is hEA (g := 1) (x := true) (b := true) rfl rfl rfl rfl) (by kernel_rfl) (fun w' => by have e76 : Fr.tmps[76]? = some (.int .i64 g) := hEA.dst 4 _ 76 rfl rfl; have e78 : Fr.tmps[78]? = some (.slice Ax lx cx) := hEA.dst 6 _ 78 rfl rfl; have e79 : Fr.tmps[79]? = some (.slice au lu cu) := hEA.dst 7 _ 79 rfl rfl; simp [e76, e78, e79, go_sem]) ?_
                    intro w' hw
                    refine (HK1.out _ w' (keeps_spots _ _ _ _ _ _ HX.out hw.1 hw.1.size) (keeps_draws _ _ _ _ _ _ HW.out hw.1 hw.1.size)).mono ?_
                    rintro e w2 ⟨rfl, hb⟩
                    exact ⟨_, rfl, fun r' hr hv => ⟨rfl, hw.1.trans (hb.mono hw.1.size), (by intro h; cases h), (by intro h; cases h), (by intro h; cases h)⟩⟩
                  · refine obR_val (want_is hEA (g := 1) (x := true) (b := true) rfl rfl rfl rfl) (by kernel_rfl) (fun ph w' hp hpm hw => ?_)
                    have e74 : Fr.tmps[74]? = some (.string (tx K)) := hEA.dst 2 _ 74 rfl rfl; have e80 : Fr.tmps[80]? = some (.string (tx K)) := hEA.dst 8 _ 80 rfl rfl; simp [execOp, e74, e80, go_sem]
                  · refine obR_val (want_none rfl) (by kernel_rfl) (fun ph w' hp hpm hw => ?_)
                    have e73 : Fr.tmps[73]? = some (.bool true) := hEA.dst 1 _ 73 rfl rfl; have e81 : Fr.tmps[81]? = some (.bool true) := hEA.dst 9 _ 81 rfl rfl; simp [execOp, e73, e81, go_sem]
                  · exact obR_move _ rfl (want_none rfl) (by kernel_rfl) (eval_dst hEA (j := 10) rfl rfl)
                  · exact obR_move _ rfl (want_is hEA (g := 11) (x := true) (b := true) rfl rfl rfl rfl) (by kernel_rfl) (eval_out hEA (d := 10) (by kernel_rfl))
                  · refine obR_val (want_is hEA (g := 11) (x := true) (b := true) rfl rfl rfl rfl) (by kernel_rfl) (fun ph w' hp hpm hw => ?_)
                    have e2 : Fr.tmps[2]? = some (.pointer (some ⟨G0, 0, none⟩)) := at_out hEA (d := 2) (by kernel_rfl); simp [execOp, e2, go_sem]
                  · refine obR_val (want_is hEA (g := 11) (x := true) (b := true) rfl rfl rfl rfl) (by kernel_rfl) (fun ph w' hp hpm hw => ?_)
                    have hc0 := (hw.1.cell (p := ⟨G0, 0, none⟩) b0.lt).trans (b0.c 0 _ rfl)
                    have e85 : Fr.tmps[85]? = some (.pointer (some ⟨G0, 0, none⟩)) := hEA.dst 13 _ 85 rfl rfl; simp [execOp, e85, hc0, go_sem]
                  · refine obR_val (want_is hEA (g := 11) (x := true) (b := true) rfl rfl rfl rfl) (by kernel_rfl) (fun ph w' hp hpm hw => ?_)
                    have e2 : Fr.tmps[2]? = some (.pointer (some ⟨G0, 0, none⟩)) := at_out hEA (d := 2) (by kernel_rfl); simp [execOp, e2, go_sem]
                  · refine obR_val (want_is hEA (g := 11) (x := true) (b := true) rfl rfl rfl rfl) (by kernel_rfl) (fun ph w' hp hpm hw => ?_)
                    have hc0 := (hw.1.cell (p := ⟨G0, 1, none⟩) b0.lt).trans (b0.c 1 _ rfl)
                    have e87 : Fr.tmps[87]? = some (.pointer (some ⟨G0, 1, none⟩)) := hEA.dst 15 _ 87 rfl rfl; simp [execOp, e87, hc0, go_sem]
                  · refine obR_make (q := 2) (want_is hEA (g := 11) (x := true) (b := true) rfl rfl rfl rfl) (by kernel_rfl) (fun w' hw => ?_)
                    exact ⟨.slice (some ⟨w'.heap.size, 0, none⟩) 0 0, w'.alloc (.cells #[] 41), by simp [execOp, go_sem], fun r' hr hv => ⟨hv, hw.1.alloc hw.1.size _, fun _ => by rw [hv]; exact owns_empty w' _ 4 hw.1.size, (by intro h; cases h), (by intro h; cases h)⟩⟩
                  · exact obR_move _ rfl (want_is hEA (g := 11) (x := true) (b := true) rfl rfl rfl rfl) (by kernel_rfl) (eval_out hEA (d := 5) (by kernel_rfl))
                  · refine obR_make (q := 3) (want_is hEA (g := 11) (x := true) (b := true) rfl rfl rfl rfl) (by kernel_rfl) (fun w' hw => ?_)
                    exact run_append_draws_then w' (.tmp 89) (.tmp 90) rfl V1.heap.size (r 2) 0 [] (eval_dst hEA (j := 17) rfl rfl) (hw.2.1 rfl) w'.heap.size _ od (eval_dst hEA (j := 18) rfl rfl) (keeps_draws _ _ _ _ _ _ HW.out hw.1 hw.1.size) hsz0 hw.1.size (fun v' w3 hown hg r' hr hv => ⟨hv, hw.1.grown hg hw.1.size (fun k hk => ((hw.2.1 rfl).lt k hk).1), (by intro h; cases h), (fun _ => by rw [hv]; exact hown), (by intro h; cases h)⟩)
                  · exact obR_move _ rfl (want_is hEA (g := 11) (x := true) (b := true) rfl rfl rfl rfl) (by kernel_rfl) (eval_out hEA (d := 1) (by kernel_rfl))
                  · refine obR_make (q := 4) (want_is hEA (g := 11) (x := true) (b := true) rfl rfl rfl rfl) (by kernel_rfl) (fun w' hw => ?_)
                    exact run_append_draws_then w' (.tmp 91) (.tmp 92) rfl V1.heap.size (r 3) _ _ (eval_dst hEA (j := 19) rfl rfl) (hw.2.2.1 rfl) w'.heap.size _ es (eval_dst hEA (j := 20) rfl rfl) (keeps_draws _ _ _ _ _ _ HE.out hw.1 hw.1.size) hsz hw.1.size (fun v' w3 hown hg r' hr hv => ⟨hv, hw.1.grown hg hw.1.size (fun k hk => ((hw.2.2.1 rfl).lt k hk).1), (by intro h; cases h), (by intro h; cases h), (fun _ => by rw [hv]; exact hown)⟩)
                  · refine obR_call (q := 5) (f := 10) (args := #[.int .i64 g, .slice Ax lx cx, (r 4)]) (want_is hEA (g := 11) (x := true) (b := true) rfl rfl rfl rfl) (by kernel_rfl) (fun w' => by have e86 : Fr.tmps[86]? = some (.int .i64 g) := hEA.dst 14 _ 86 rfl rfl; have e88 : Fr.tmps[88]? = some (.slice Ax lx cx) := hEA.dst 16 _ 88 rfl rfl; have e93 : Fr.tmps[93]? = some ((r 4)) := hEA.dst 21 _ 93 rfl rfl; simp [e86, e88, e93, go_sem]) ?_
                    intro w' hw
                    have h5 := hw.2.2.2 rfl
                    rw [Nat.zero_add, List.nil_append, ← List.length_append, ← List.flatMap_append] at h5
                    refine (HK2.out _ w' (keeps_spots _ _ _ _ _ _ HX.out hw.1 hw.1.size) (own_draws HLL.out h5)).mono ?_
                    rintro e w2 ⟨rfl, hb⟩
                    exact ⟨_, rfl, fun r' hr hv => ⟨rfl, hw.1.trans (hb.mono hw.1.size), (by intro h; cases h), (by intro h; cases h), (by intro h; cases h)⟩⟩
                  · refine obR_val (want_is hEA (g := 11) (x := true) (b := true) rfl rfl rfl rfl) (by kernel_rfl) (fun ph w' hp hpm hw => ?_)
                    have e84 : Fr.tmps[84]? = some (.string (tx K)) := hEA.dst 12 _ 84 rfl rfl; have e94 : Fr.tmps[94]? = some (.string (tx K)) := hEA.dst 22 _ 94 rfl rfl; simp [execOp, e84, e94, go_sem]
                  · refine obR_val (want_none rfl) (by kernel_rfl) (fun ph w' hp hpm hw => ?_)
                    have e83 : Fr.tmps[83]? = some (.bool true) := hEA.dst 11 _ 83 rfl rfl; have e95 : Fr.tmps[95]? = some (.bool true) := hEA.dst 23 _ 95 rfl rfl; simp [execOp, e83, e95, go_sem]
                  · exact obR_move _ rfl (want_none rfl) (by kernel_rfl) (eval_dst hEA (j := 24) rfl rfl)
                  · exact obR_move _ rfl (want_is hEA (g := 25) (x := true) (b := true) rfl rfl rfl rfl) (by kernel_rfl) (eval_out hEA (d := 7) (by kernel_rfl))
                  · exact obR_move _ rfl (want_is hEA (g := 25) (x := true) (b := true) rfl rfl rfl rfl) (by kernel_rfl) (eval_dst hEA (j := 26) rfl rfl)
                  · exact obR_skip (want_is hEA (g := 27) (x := true) (b := false) rfl rfl rfl rfl) (by kernel_rfl) rfl
                  · exact obR_skip (want_is hEA (g := 27) (x := true) (b := false) rfl rfl rfl rfl) (by kernel_rfl) rfl
                  · refine obR_val (want_is hEA (g := 25) (x := true) (b := true) rfl rfl rfl rfl) (by kernel_rfl) (fun ph w' hp hpm hw => ?_)
                    have e99 : Fr.tmps[99]? = some (.bool true) := hEA.dst 27 _ 99 rfl rfl; have e101 : Fr.tmps[101]? = some (undef) := hEA.dst 29 _ 101 rfl rfl; simp [execOp, e99, e101, go_sem]
                  · refine obR_val (want_none rfl) (by kernel_rfl) (fun ph w' hp hpm hw => ?_)
                    have e97 : Fr.tmps[97]? = some (.bool true) := hEA.dst 25 _ 97 rfl rfl; have e102 : Fr.tmps[102]? = some (.bool true) := hEA.dst 30 _ 102 rfl rfl; simp [execOp, e97, e102, go_sem]
                  · exact obR_move _ rfl (want_none rfl) (by kernel_rfl) (eval_dst hEA (j := 31) rfl rfl)
                  · exact obR_move _ rfl (want_is hEA (g := 32) (x := true) (b := true) rfl rfl rfl rfl) (by kernel_rfl) (eval_out hEA (d := 7) (by kernel_rfl))
                  · refine obR_val (want_is hEA (g := 32) (x := true) (b := true) rfl rfl rfl rfl) (by kernel_rfl) (fun ph w' hp hpm hw => ?_)
                    have e105 : Fr.tmps[105]? = some (.bool true) := hEA.dst 33 _ 105 rfl rfl; simp [execOp, e105, go_sem]
                  · exact obR_move _ rfl (want_is hEA (g := 32) (x := true) (b := true) rfl rfl rfl rfl) (by kernel_rfl) (eval_dst hEA (j := 34) rfl rfl)
                  · exact obR_move _ rfl (want_is hEA (g := 35) (x := false) (b := false) rfl rfl rfl rfl) (by kernel_rfl) (eval_out hEA (d := 11) (by kernel_rfl))
                  · refine obR_val (want_is hEA (g := 35) (x := false) (b := false) rfl rfl rfl rfl) (by kernel_rfl) (fun ph w' hp hpm hw => ?_)
                    have e108 : Fr.tmps[108]? = some (.bool false) := hEA.dst 36 _ 108 rfl rfl; simp [execOp, e108, go_sem]
                  · refine obR_val (want_is hEA (g := 32) (x := true) (b := true) rfl rfl rfl rfl) (by kernel_rfl) (fun ph w' hp hpm hw => ?_)
                    have e107 : Fr.tmps[107]? = some (.bool false) := hEA.dst 35 _ 107 rfl rfl; have e109 : Fr.tmps[109]? = some (.bool true) := hEA.dst 37 _ 109 rfl rfl; simp [execOp, e107, e109, go_sem]
                  · exact obR_move _ rfl (want_is hEA (g := 32) (x := true) (b := true) rfl rfl rfl rfl) (by kernel_rfl) (eval_dst hEA (j := 38) rfl rfl)
                  · exact obR_skip (want_is hEA (g := 39) (x := true) (b := false) rfl rfl rfl rfl) (by kernel_rfl) rfl
                  · exact obR_skip (want_is hEA (g := 39) (x := true) (b := false) rfl rfl rfl rfl) (by kernel_rfl) rfl
                  · refine obR_val (want_is hEA (g := 32) (x := true) (b := true) rfl rfl rfl rfl) (by kernel_rfl) (fun ph w' hp hpm hw => ?_)
                    have e111 : Fr.tmps[111]? = some (.bool true) := hEA.dst 39 _ 111 rfl rfl; have e113 : Fr.tmps[113]? = some (undef) := hEA.dst 41 _ 113 rfl rfl; simp [execOp, e111, e113, go_sem]
                  · refine obR_val (want_none rfl) (by kernel_rfl) (fun ph w' hp hpm hw => ?_)
                    have e104 : Fr.tmps[104]? = some (.bool true) := hEA.dst 32 _ 104 rfl rfl; have e114 : Fr.tmps[114]? = some (.bool true) := hEA.dst 42 _ 114 rfl rfl; simp [execOp, e104, e114, go_sem]
                  · refine obR_val (want_none rfl) (by kernel_rfl) (fun ph w' hp hpm hw => ?_)
                    have e115 : Fr.tmps[115]? = some (.bool true) := hEA.dst 43 _ 115 rfl rfl; simp [execOp, e115, go_sem]
                · intro r w' hw
                  simp only [laid, Act.put, List.setIfInBounds_toArray, List.set_cons_succ, List.set_cons_zero, List.getD_cons_succ, List.getD_cons_zero, Nat.zero_add, Nat.reduceAdd]
                  go_wp2
                  go_ret
                  exact ⟨rfl, B.trans (hw.1.mono B.size)⟩

end Go.Proofs.YtjnefacdindamaaGreatDoor
