/- Trees read off bytes; lodge/tree's Read and the document's. Condition: the pointer points to a Left in a state, of at most n bytes, fewer than 2^63. -/
import Derived.Test.YtgnebmandifhiaaTreeR
import Derived.Test.YtgnebmandifhiaaMemR
namespace Go.Proofs.Ytgnebmandifhiaa
open Go Go.RowKit
set_option linter.unusedVariables false

/-- Bad is stored. -/
theorem At.spoil {w : World} {b n : Nat} {st : Option (List UInt8)} (h : At w b n st) : w.frozen? ⟨b, 1, none⟩ = false ∧ At (w.setCell ⟨b, 1, none⟩ (.bool true)) b n none := by
  cases st with
  | some l =>
    obtain ⟨h, hl⟩ := h
    exact ⟨h.4, l, hl, h.bad true⟩
  | none =>
    obtain ⟨r, hr, h⟩ := h
    exact ⟨h.4, r, hr, h.bad true⟩
/-- What owning a row keeps while another block turns. -/
theorem owns_turn {w w' : World} {base b : Nat} {e : TypeId} {s : Nat} {v : Value} {n : Nat} {ys : List Value} (h : w.ownsRow base e s v n ys) (hb : b < base) (ht : Turn b w.heap.size w w') : w'.ownsRow base e s v n ys :=
  owns_block h fun g hg => ht.block g (owns_own h g hg).2 (by have := (owns_own h g hg).1; omega)
/-- A row of one's own grows while block b is left alone. -/
theorem At.grown {w w' : World} {b n : Nat} {st : Option (List UInt8)} (h : At w b n st) {row : Option Nat} (hg : w.grownBy w' row) (hrow : row ≠ some b) : At w' b n st :=
  h.keep (hg.block b h.lt (fun e => hrow e.symm))
theorem Turn.grown {g n : Nat} {w0 w w' : World} (h : Turn g n w0 w) {row : Option Nat} (hg : w.grownBy w' row) (hrow : ∀ k, row = some k → n ≤ k) (hn : n ≤ w.heap.size) : Turn g n w0 w' :=
  h.trans ⟨hg.os, hg.tape, hg.output, hg.size, fun k hk _ => hg.block k (by omega) (fun e => by have := hrow k e.symm; omega)⟩

set_option maxRecDepth 100000 in
set_option maxHeartbeats 4000000 in
theorem readSpot_any (b n : Nat) (st : Option (List UInt8)) (w : World) (h : At w b n st) (hn : n ≤ 9223372036854775807) :
    Calls Try.prog 41 #[.pointer (some ⟨b, 0, none⟩)] w fun e W' => e = .returned (vS (spOf st)) ∧ At W' b n (spSt st) ∧ Turn b w.heap.size w W' := by
  have hlt := h.lt
  have hne : w.heap.size ≠ b := by omega
  go_enter Try.func41, Try.ntmps41
  go_wp2_with fail
  obtain ⟨W0, hW0, hA, hR, T⟩ : ∃ W0, w.alloc (.cells #[.bool false, .int .i64 0, .int .i64 0] 46) = W0 ∧ At W0 b n st ∧ Box W0 w.heap.size [.bool false, .int .i64 0, .int .i64 0] ∧ Turn b w.heap.size w W0 := ⟨_, rfl, h.next (below_new _ _), Box.new w _ _, turn_of (below_new _ _) b⟩
  rw [hW0]
  clear hW0 h
  refine (leftNum_st b n _ 1 W0 hA hn).mono ?_
  rintro e W1 ⟨rfl, hA, o⟩
  replace hR := hR.only o hne
  replace T := T.trans (o.turn _)
  clear o
  by_cases hz : numOf st 1 = 0
  · have HO : Hid (spOf st = (false, 0, 0)) := Lib.hid (by simp [spOf, hz])
    have HS : Hid (spSt st = numSt st 1) := Lib.hid (by simp [spSt, hz])
    have r0 := hR.c 0 _ rfl
    have g0 := hR.f 0 (by decide)
    have r1 := hR.c 1 _ rfl
    have g1 := hR.f 1 (by decide)
    have r2 := hR.c 2 _ rfl
    have g2 := hR.f 2 (by decide)
    rw [hz]
    clear hz
    go_wp2
    (try simp only [Exit.inBlock, Exit.then]); refine bodyPost_ret (v := .agg #[.bool false, .int .i64 0, .int .i64 0]) (by simp [results, Try.results41, go_sem, r0, r1, r2]) rfl ?_
    rw [HO.out, HS.out]
    exact ⟨rfl, hA.keep (by rw [Below.heap_setCell _ _ _ _ (Ne.symm hne), Below.heap_setCell _ _ _ _ (Ne.symm hne), Below.heap_setCell _ _ _ _ (Ne.symm hne)]), (((T.set (Or.inl (Nat.le_refl _)) _ _).set (Or.inl (Nat.le_refl _)) _ _).set (Or.inl (Nat.le_refl _)) _ _)⟩
  · have HO : Hid (spOf st = (true, memOf (numSt st 1))) := Lib.hid (by simp [spOf, hz])
    have HS : Hid (spSt st = memSt (numSt st 1)) := Lib.hid (by simp [spSt, hz])
    have hz2 : (numOf st 1 == 0) = false := beq_eq_false_iff_ne.2 hz
    go_wp2_with fail
    refine (read_any b n _ W1 hA hn).mono ?_
    rintro e W2 ⟨rfl, hA, o⟩
    have hR2 := hR.turn o hR.lt hne
    have T2 := T.trans (o.mono T.size)
    have r0 := hR2.c 0 _ rfl
    have g0 := hR2.f 0 (by decide)
    have r1 := hR2.c 1 _ rfl
    have g1 := hR2.f 1 (by decide)
    have r2 := hR2.c 2 _ rfl
    have g2 := hR2.f 2 (by decide)
    clear hz2
    go_wp2
    (try simp only [Exit.inBlock, Exit.then]); refine bodyPost_ret (v := .agg #[.bool true, .int .i64 (memOf (numSt st 1)).1, .int .i64 (memOf (numSt st 1)).2]) (by simp [results, Try.results41, go_sem, r0, r1, r2]) rfl ?_
    rw [HO.out, HS.out]
    exact ⟨rfl, hA.keep (by rw [Below.heap_setCell _ _ _ _ (Ne.symm hne), Below.heap_setCell _ _ _ _ (Ne.symm hne), Below.heap_setCell _ _ _ _ (Ne.symm hne)]), (((T2.set (Or.inl (Nat.le_refl _)) _ _).set (Or.inl (Nat.le_refl _)) _ _).set (Or.inl (Nat.le_refl _)) _ _)⟩

set_option maxRecDepth 100000 in
set_option maxHeartbeats 4000000 in
theorem readT_own (b n : Nat) (st : Option (List UInt8)) (w : World) (h : At w b n st) (hn : n ≤ 9223372036854775807) :
    Calls Try.prog 23 #[.pointer (some ⟨b, 0, none⟩)] w fun e W' => ∃ v', e = .returned v' ∧ W'.ownsRow w.heap.size 46 3 v' (treeOf st).length ((treeOf st).flatMap spC) ∧ At W' b n (treeSt st) ∧ Turn b w.heap.size w W' := by
  have hlt := h.lt
  have hr := numOf_range st 128 (by omega)
  have hN : (treeN st : Int) = numOf st 128 := by unfold treeN; omega
  have hN2 : treeN st ≤ 128 := by omega
  have HO : Hid (treeOf st = if treeOk st then rdOf (treeN st) (numSt st 128) else []) := Lib.hid rfl
  have HS : Hid (treeSt st = if treeOk st then rdSt (treeN st) (numSt st 128) else none) := Lib.hid rfl
  have HK : Hid (treeOk st = ((rdSt (treeN st) (numSt st 128)).isSome && okT (rdOf (treeN st) (numSt st 128)))) := Lib.hid rfl
  go_enter Try.func23, Try.ntmps23
  go_wp2_with fail
  refine (leftNum_st b n _ 128 w h hn).mono ?_
  rintro e W1 ⟨rfl, hA, o⟩
  have T := o.turn w.heap.size
  rw [← hN]
  clear o hN hr h
  generalize treeN st = N at *
  generalize numSt st 128 = s1 at *
  go_wp2_with fail
  go_loopw [3, 6] (fun u i wr => ∃ (k : Nat) (wq : World) (uq : Value), wq = wr ∧ uq = u ∧ k ≤ N ∧ i = .int .i64 k ∧ wr.ownsRow w.heap.size 46 3 u k ((rdOf k s1).flatMap spC) ∧ At wr b n (rdSt k s1) ∧ Turn b w.heap.size w wr) (fun _ i _ => N - (intOf i).toNat)
  case atStart => exact ⟨0, _, _, rfl, rfl, Nat.zero_le _, rfl, World.ownsRow_nil _ _ _ _, hA, T⟩
  case round =>
    obtain ⟨k, wr, u, rfl, rfl, hk, rfl, hown, hA, T⟩ := hrel
    by_cases hlt2 : k < N
    · have hd : decide (k < N) = true := by simpa using hlt2
      have HSS := Lib.hid (rdSt_succ k s1)
      have HOS := Lib.hid (rdOf_succ k s1)
      go_wp2_with fail
      refine (readSpot_any b n _ wr hA hn).mono ?_
      rintro e W2 ⟨rfl, hA2, o⟩
      have hown2 := owns_turn hown hlt o
      have T2 := T.trans (o.mono T.size)
      clear hA hown T
      obtain ⟨⟨f, x, y⟩, hx⟩ : ∃ s, spOf (rdSt k s1) = s := ⟨_, rfl⟩
      have HX := Lib.hid hx
      rw [hx]
      clear hx o
      go_wp2_with (at_builtin; refine append_spots _ rfl _ _ rfl w.heap.size _ _ _ rfl (hown2.alloc _) _ _ _ rfl (one_spot _ (f, x, y) _ _ (by simp)) ?c1 ?c2 ?_)
      case c1 => simp; omega
      case c2 => have := T2.size; simp; omega
      intro v' w' hown' hgr
      have hA3 := (hA2.next (below_new W2 (.cells #[.bool f, .int .i64 x, .int .i64 y] 46))).grown hgr (fun e => by have := (hown2.lt _ e).1; omega)
      have T3 := (T2.alloc T2.size (.cells #[.bool f, .int .i64 x, .int .i64 y] 46)).grown hgr (fun k hk => (hown2.lt k hk).1) (by have := T2.size; simp; omega)
      go_wp2
      go_roundw
      case rel => exact ⟨k + 1, _, _, rfl, rfl, by omega, by go_num, by rw [HOS.out, HX.out]; simpa using hown', by rw [HSS.out]; exact hA3, T3⟩
      case measure => simp [intOf]; omega
    · have hd : decide (k < N) = false := by simpa using hlt2
      obtain rfl : k = N := by omega
      have hsp : wr.ownsRow w.heap.size 46 3 u (rdOf k s1).length ((rdOf k s1).flatMap spC) := by rw [rdOf_length]; exact hown
      have HSP := Lib.hid (own_spots hsp)
      have HW := Lib.hid hsp
      obtain ⟨g', c', n', rfl⟩ : ∃ ao n' cap, u = Value.slice ao n' cap := by
        rcases hown.2 with ⟨hv, _⟩ | ⟨g, cap, cur, hv, _⟩
        · exact ⟨_, _, _, hv⟩
        · exact ⟨_, _, _, hv⟩
      have hbad := hA.bad
      obtain ⟨hfr, hAn⟩ := hA.spoil
      have HA := Lib.hid hA
      have HAN := Lib.hid hAn
      have HT := Lib.hid T
      clear hA hAn T hown hsp hd
      cases hst : rdSt k s1 with
      | none =>
        have hk0 : Hid (treeOk st = false) := Lib.hid (by rw [HK.out, hst]; rfl)
        rw [hst] at hbad
        have hbad : wr.cell? ⟨b, 1, none⟩ = some (.bool true) := hbad
        go_wp2
        go_ret
        rw [HO.out, HS.out, hk0.out]
        exact ⟨_, rfl, World.ownsRow_nil _ _ _ _, HAN.out, HT.out.set (Or.inr rfl) _ _⟩
      | some l =>
        rw [hst] at hbad
        have hbad : wr.cell? ⟨b, 1, none⟩ = some (.bool false) := hbad
        cases hok : okT (rdOf k s1) with
        | true =>
          have hk0 : Hid (treeOk st = true) := Lib.hid (by rw [HK.out, hst, hok]; rfl)
          have HOK := Lib.hid hok
          have HST := Lib.hid hst
          clear hok hst
          go_wp2_with fail
          refine (right_any _ _ wr HSP.out (by rw [rdOf_length]; omega)).mono ?_
          rintro e W2 ⟨rfl, B2⟩
          rw [HOK.out]
          go_wp2
          go_ret
          rw [HO.out, HS.out, hk0.out]
          exact ⟨_, rfl, owns_below HW.out B2, HA.out.next B2, HT.out.trans (turn_of (B2.mono HT.out.size) b)⟩
        | false =>
          have hk0 : Hid (treeOk st = false) := Lib.hid (by rw [HK.out, hst, hok]; rfl)
          have HOK := Lib.hid hok
          have HST := Lib.hid hst
          clear hok hst
          go_wp2_with fail
          refine (right_any _ _ wr HSP.out (by rw [rdOf_length]; omega)).mono ?_
          rintro e W2 ⟨rfl, B2⟩
          rw [HOK.out]
          obtain ⟨hfr2, hAn2⟩ := (HA.out.next B2).spoil
          have hbad2 := (HA.out.next B2).bad
          rw [HST.out] at hbad2
          have hbad2 : W2.cell? ⟨b, 1, none⟩ = some (.bool false) := hbad2
          have HAN2 := Lib.hid hAn2
          clear hAn2
          go_wp2
          go_ret
          rw [HO.out, HS.out, hk0.out]
          exact ⟨_, rfl, World.ownsRow_nil _ _ _ _, HAN2.out, (HT.out.trans (turn_of (B2.mono HT.out.size) b)).set (Or.inr rfl) _ _⟩
theorem readT_any (b n : Nat) (st : Option (List UInt8)) (w : World) (h : At w b n st) (hn : n ≤ 9223372036854775807) :
    Calls Try.prog 23 #[.pointer (some ⟨b, 0, none⟩)] w fun e W' => ∃ v', e = .returned v' ∧ Spots W'.heap.size W' (treeOf st) [v'] ∧ At W' b n (treeSt st) ∧ Turn b w.heap.size w W' := by
  refine (readT_own b n st w h hn).mono ?_
  rintro e W' ⟨v', he, h1, h2, h3⟩
  exact ⟨v', he, own_spots h1, h2, h3⟩

theorem spOf_one {st : Option (List UInt8)} (h : numOf st 1 = 1) : spOf st = (true, memOf (numSt st 1)) ∧ spSt st = memSt (numSt st 1) := by
  unfold spOf spSt
  rw [h]
  exact ⟨rfl, rfl⟩
theorem spOf_nought {st : Option (List UInt8)} (h : numOf st 1 = 0) : spOf st = (false, 0, 0) ∧ spSt st = numSt st 1 := by
  unfold spOf spSt
  rw [h]
  exact ⟨rfl, rfl⟩
theorem At.good {w : World} {b n : Nat} {l : List UInt8} (h : At w b n (some l)) : w.cell? ⟨b, 1, none⟩ = some (.bool false) := h.bad
theorem At.ill {w : World} {b n : Nat} (h : At w b n none) : w.cell? ⟨b, 1, none⟩ = some (.bool true) := h.bad

set_option maxRecDepth 100000 in
set_option maxHeartbeats 4000000 in
theorem refReadT_any (b n : Nat) (st : Option (List UInt8)) (w : World) (h : At w b n st) (hn : n ≤ 9223372036854775807) :
    Calls Try.prog 24 #[.pointer (some ⟨b, 0, none⟩)] w fun e W' => ∃ v', e = .returned v' ∧ Spots W'.heap.size W' (treeOf st) [v'] ∧ At W' b n (treeSt st) ∧ Turn b w.heap.size w W' := by
  have hlt := h.lt
  have hr := numOf_range st 128 (by omega)
  have hN : (treeN st : Int) = numOf st 128 := by unfold treeN; omega
  have hN2 : treeN st ≤ 128 := by omega
  have HO : Hid (treeOf st = if treeOk st then rdOf (treeN st) (numSt st 128) else []) := Lib.hid rfl
  have HS : Hid (treeSt st = if treeOk st then rdSt (treeN st) (numSt st 128) else none) := Lib.hid rfl
  have HK : Hid (treeOk st = ((rdSt (treeN st) (numSt st 128)).isSome && okT (rdOf (treeN st) (numSt st 128)))) := Lib.hid rfl
  go_enter Try.func24, Try.ntmps24
  go_wp2_with fail
  refine (rleftNum_st b n _ 128 w h hn).mono ?_
  rintro e W1 ⟨rfl, hA, o⟩
  have T := o.turn w.heap.size
  rw [← hN]
  clear o hN hr h
  generalize treeN st = N at *
  generalize numSt st 128 = s1 at *
  go_wp2_with fail
  go_loopw [3, 5] (fun u i wr => ∃ (k : Nat) (wq : World) (uq : Value), wq = wr ∧ uq = u ∧ k ≤ N ∧ i = .int .i64 k ∧ wr.ownsRow w.heap.size 46 3 u k ((rdOf k s1).flatMap spC) ∧ At wr b n (rdSt k s1) ∧ Turn b w.heap.size w wr) (fun _ i _ => N - (intOf i).toNat)
  case atStart => exact ⟨0, _, _, rfl, rfl, Nat.zero_le _, rfl, World.ownsRow_nil _ _ _ _, hA, T⟩
  case round =>
    obtain ⟨k, wr, u, rfl, rfl, hk, rfl, hown, hA, T⟩ := hrel
    by_cases hgo : k < N ∧ (rdSt k s1).isSome = true
    · obtain ⟨hlt2, hsome⟩ := hgo
      obtain ⟨l, hl⟩ := Option.isSome_iff_exists.1 hsome
      clear hsome
      have hd : decide (k < N) = true := by simpa using hlt2
      have HSS := Lib.hid (rdSt_succ k s1)
      have HOS := Lib.hid (rdOf_succ k s1)
      rw [hl] at hA
      have hgd := hA.good
      rw [hl] at HSS HOS
      have HL := Lib.hid hl
      clear hl
      go_wp2_with fail
      refine (rleftNum_st b n _ 1 wr hA hn).mono ?_
      rintro e W2 ⟨rfl, hA2, o⟩
      have hown2 := owns_turn hown hlt (o.turn wr.heap.size)
      have T2 := T.trans (o.turn _)
      have hr1 := numOf_range (some l) 1 (by omega)
      clear hA hown T hgd o
      by_cases hz : numOf (some l) 1 = 1
      · obtain ⟨HX1, HX2⟩ := spOf_one hz
        have HX1 := Lib.hid HX1
        have HX2 := Lib.hid HX2
        have hzb : (numOf (some l) 1 == 1) = true := beq_iff_eq.2 hz
        clear hz hr1
        go_wp2_with fail
        obtain ⟨W3, hW3, hb3, B3⟩ : ∃ W3, W2.alloc (.cells #[.bool true, .int .i64 0, .int .i64 0] 46) = W3 ∧ Box W3 W2.heap.size [.bool true, .int .i64 0, .int .i64 0] ∧ Below W2.heap.size W2 W3 := ⟨_, rfl, Box.new W2 _ _, below_new _ _⟩
        rw [hW3]
        have hs3 : W3.heap.size = W2.heap.size + 1 := by rw [← hW3]; simp
        clear hW3
        have hA3 := hA2.next B3
        have hown3 := owns_below hown2 B3
        have T3 := T2.trans (turn_of (B3.mono T2.size) b)
        have hb2 : W2.heap.size ≠ b := by have := hA2.lt; omega
        refine (refRead_any b n _ W3 hA3 hn).mono ?_
        rintro e W4 ⟨rfl, hA4, o⟩
        have hb4 := hb3.turn o hb3.lt hb2
        have hown4 := owns_turn hown3 hlt o
        have T4 := T3.trans (o.mono T3.size)
        have hsz : W2.heap.size < W4.heap.size := by have := o.size; omega
        have hwl : w.heap.size ≤ W2.heap.size := T2.size
        have hown_old : ∀ g, u.ownBlock = some g → g < W2.heap.size := fun g hg => (owns_own hown2 g hg).2
        obtain ⟨⟨x, y⟩, hm⟩ : ∃ m, memOf (numSt (some l) 1) = m := ⟨_, rfl⟩
        rw [hm]
        have HM := Lib.hid hm
        clear hm hA2 hown2 T2 hA3 hown3 T3 o hb3 B3 hzb
        have r0 := hb4.c 0 _ rfl
        have r1 := hb4.c 1 _ rfl
        have r2 := hb4.c 2 _ rfl
        have g1 := hb4.f 1 (by decide)
        have g2 := hb4.f 2 (by decide)
        obtain ⟨W5, hW5, k0, k1, k2, T5, hA5, hown5⟩ : ∃ W5, (W4.setCell ⟨W2.heap.size, 1, none⟩ (.int .i64 x)).setCell ⟨W2.heap.size, 2, none⟩ (.int .i64 y) = W5 ∧ W5.cell? ⟨W2.heap.size, 0, none⟩ = some (.bool true) ∧ W5.cell? ⟨W2.heap.size, 1, none⟩ = some (.int .i64 x) ∧ W5.cell? ⟨W2.heap.size, 2, none⟩ = some (.int .i64 y) ∧ Turn b w.heap.size w W5 ∧ At W5 b n (memSt (numSt (some l) 1)) ∧ W5.ownsRow w.heap.size 46 3 u k ((rdOf k s1).flatMap spC) := by
          refine ⟨_, rfl, ?_, ?_, ?_, (T4.set (Or.inl hwl) _ _).set (Or.inl hwl) _ _, hA4.keep (by rw [Below.heap_setCell _ _ _ _ (Ne.symm hb2), Below.heap_setCell _ _ _ _ (Ne.symm hb2)]), ?_⟩
          · rw [World.cell?_setCell_other _ _ _ _ (by simp), World.cell?_setCell_other _ _ _ _ (by simp)]; exact r0
          · rw [World.cell?_setCell_other _ _ _ _ (by simp)]; exact World.cell?_setCell_same _ _ _ r1
          · exact World.cell?_setCell_same _ _ _ ((World.cell?_setCell_other _ _ _ _ (by simp)).trans r2)
          · exact owns_block (hown4) fun g hg => by
              have hg4 := (hown_old g hg)
              rw [Below.heap_setCell _ _ _ _ (show g ≠ W2.heap.size by omega), Below.heap_setCell _ _ _ _ (show g ≠ W2.heap.size by omega)]
        go_wp2_with (at_builtin; refine append_spots _ rfl _ _ rfl w.heap.size _ _ _ rfl (hown5.alloc _) _ _ _ rfl (one_spot _ (true, x, y) _ _ (by simp)) ?c1 ?c2 ?_)
        case c1 => simp; omega
        case c2 => have := T5.size; simp; omega
        intro v' w' hown' hgr
        have B6 := below_new W5 (.cells #[.bool true, .int .i64 x, .int .i64 y] 46)
        have hA6 := (hA5.next B6).grown hgr (fun e => by have := (hown5.lt _ e).1; omega)
        have T6 := (T5.trans (turn_of (B6.mono T5.size) b)).grown hgr (fun k hk => (hown5.lt k hk).1) (by have := T5.size; simp; omega)
        go_wp2
        go_roundw
        case rel => exact ⟨k + 1, _, _, rfl, rfl, by omega, by go_num, by rw [HOS.out, HX1.out, HM.out]; simpa using hown', by rw [HSS.out, HX2.out]; exact hA6, T6⟩
        case measure => simp [intOf]; omega
      · obtain ⟨HX1, HX2⟩ := spOf_nought (st := some l) (by omega)
        have HX1 := Lib.hid HX1
        have HX2 := Lib.hid HX2
        have hzb : (numOf (some l) 1 == 1) = false := beq_eq_false_iff_ne.2 hz
        clear hz hr1
        go_wp2_with (at_builtin; refine append_spots _ rfl _ _ rfl w.heap.size _ _ _ rfl ((hown2.alloc _).alloc _) _ _ _ rfl (one_spot _ (false, 0, 0) _ _ (by simp)) ?c1 ?c2 ?_)
        case c1 => simp; omega
        case c2 => have := T2.size; simp; omega
        intro v' w' hown' hgr
        have B3 := below_new2 W2 (.cells #[.bool false, .int .i64 0, .int .i64 0] 46) (.cells #[.bool false, .int .i64 0, .int .i64 0] 46)
        have hA3 := (hA2.next B3).grown hgr (fun e => by have := (hown2.lt _ e).1; omega)
        have T3 := (T2.trans (turn_of (B3.mono T2.size) b)).grown hgr (fun k hk => (hown2.lt k hk).1) (by have := T2.size; simp; omega)
        go_wp2
        go_roundw
        case rel => exact ⟨k + 1, _, _, rfl, rfl, by omega, by go_num, by rw [HOS.out, HX1.out]; simpa using hown', by rw [HSS.out, HX2.out]; exact hA3, T3⟩
        case measure => simp [intOf]; omega
    · by_cases hlt2 : k < N
      · have hl : rdSt k s1 = none := by
          cases he : rdSt k s1 with
          | none => rfl
          | some l => exact absurd ⟨hlt2, by rw [he]; rfl⟩ hgo
        have hk0 : Hid (treeOk st = false) := Lib.hid (by rw [HK.out, rdSt_bad (Nat.le_of_lt hlt2) hl]; rfl)
        have hd : decide (k < N) = true := by simpa using hlt2
        rw [hl] at hA
        have hbad := hA.ill
        obtain ⟨hfr, hAn⟩ := hA.spoil
        have HAN := Lib.hid hAn
        have HT := Lib.hid T
        obtain ⟨g', c', n', rfl⟩ : ∃ ao n' cap, u = Value.slice ao n' cap := by
          rcases hown.2 with ⟨hv, _⟩ | ⟨g, cap, cur, hv, _⟩
          · exact ⟨_, _, _, hv⟩
          · exact ⟨_, _, _, hv⟩
        clear hA hAn T hown hgo hl
        go_wp2
        go_ret
        rw [HO.out, HS.out, hk0.out]
        exact ⟨_, rfl, own_spots (World.ownsRow_nil _ w.heap.size _ _), HAN.out, HT.out.set (Or.inr rfl) _ _⟩
      · obtain rfl : k = N := by omega
        have hd : decide (k < k) = false := by simp
        clear hgo
        have hsp : wr.ownsRow w.heap.size 46 3 u (rdOf k s1).length ((rdOf k s1).flatMap spC) := by rw [rdOf_length]; exact hown
        have HSP := Lib.hid (own_spots hsp)
        obtain ⟨g', c', n', rfl⟩ : ∃ ao n' cap, u = Value.slice ao n' cap := by
          rcases hown.2 with ⟨hv, _⟩ | ⟨g, cap, cur, hv, _⟩
          · exact ⟨_, _, _, hv⟩
          · exact ⟨_, _, _, hv⟩
        have hbad := hA.bad
        obtain ⟨hfr, hAn⟩ := hA.spoil
        have HA := Lib.hid hA
        have HAN := Lib.hid hAn
        have HT := Lib.hid T
        clear hA hAn T hown hsp hd
        cases hst : rdSt k s1 with
        | none =>
          have hk0 : Hid (treeOk st = false) := Lib.hid (by rw [HK.out, hst]; rfl)
          rw [hst] at hbad
          have hbad : wr.cell? ⟨b, 1, none⟩ = some (.bool true) := hbad
          go_wp2
          go_ret
          rw [HO.out, HS.out, hk0.out]
          exact ⟨_, rfl, own_spots (World.ownsRow_nil _ w.heap.size _ _), HAN.out, HT.out.set (Or.inr rfl) _ _⟩
        | some l =>
          rw [hst] at hbad
          have hbad : wr.cell? ⟨b, 1, none⟩ = some (.bool false) := hbad
          cases hok : okT (rdOf k s1) with
          | true =>
            have hk0 : Hid (treeOk st = true) := Lib.hid (by rw [HK.out, hst, hok]; rfl)
            have HOK := Lib.hid hok
            have HST := Lib.hid hst
            clear hok hst
            go_wp2_with fail
            refine (refRight_any _ _ wr HSP.out (by rw [rdOf_length]; omega)).mono ?_
            rintro e W2 ⟨rfl, B2⟩
            rw [HOK.out]
            go_wp2
            go_ret
            rw [HO.out, HS.out, hk0.out]
            exact ⟨_, rfl, keeps_spots _ _ _ _ _ _ HSP.out B2 B2.size, HA.out.next B2, HT.out.trans (turn_of (B2.mono HT.out.size) b)⟩
          | false =>
            have hk0 : Hid (treeOk st = false) := Lib.hid (by rw [HK.out, hst, hok]; rfl)
            have HOK := Lib.hid hok
            have HST := Lib.hid hst
            clear hok hst
            go_wp2_with fail
            refine (refRight_any _ _ wr HSP.out (by rw [rdOf_length]; omega)).mono ?_
            rintro e W2 ⟨rfl, B2⟩
            rw [HOK.out]
            obtain ⟨hfr2, hAn2⟩ := (HA.out.next B2).spoil
            have hbad2 := (HA.out.next B2).bad
            rw [HST.out] at hbad2
            have hbad2 : W2.cell? ⟨b, 1, none⟩ = some (.bool false) := hbad2
            have HAN2 := Lib.hid hAn2
            clear hAn2
            go_wp2
            go_ret
            rw [HO.out, HS.out, hk0.out]
            exact ⟨_, rfl, own_spots (World.ownsRow_nil _ w.heap.size _ _), HAN2.out, (HT.out.trans (turn_of (B2.mono HT.out.size) b)).set (Or.inr rfl) _ _⟩

end Go.Proofs.Ytgnebmandifhiaa
