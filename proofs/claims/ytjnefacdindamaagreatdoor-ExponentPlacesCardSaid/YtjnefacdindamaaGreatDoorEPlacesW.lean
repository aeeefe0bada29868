import Derived.Test.YtjnefacdindamaaGreatDoorAwake14
import Derived.Test.YtjnefacdindamaaGreatDoorExpK
import Derived.Test.YtjnefacdindamaaGreatDoorExpF
import Derived.Test.YtjnefacdindamaaGreatDoorExpL
import Derived.Test.YtjnefacdindamaaGreatDoorPhaseA
import Derived.Test.YtjnefacdindamaaGreatDoorLens
/- lodgelaw14.ExponentPlaces answers true, whatever case comes in, and leaves memory below as it was. No condition. -/
namespace Go.Proofs.YtjnefacdindamaaGreatDoor
open Go Go.RowKit Num
set_option linter.unusedVariables false
set_option maxRecDepth 100000

set_option maxRecDepth 100000 in
set_option maxHeartbeats 16000000 in
theorem exponentPlaces_walk (c : Array Value) (w : World) (h : ∃ x, IsCase w.heap.size w x c.toList) (hT : Tab w) :
    Calls Tryz.prog 7 #[.agg c] w fun e w' => e = .returned (.bool true) ∧ Below w.heap.size w w' := by
  have HTT : Hid (∀ W, Below w.heap.size w W → Tab W) := Lib.hid fun W hb => hT.next hb
  clear hT
  obtain ⟨⟨g, xs, ds, L, I⟩, u, v, hc, hx, hd⟩ := h
  simp only at hc hx hd
  obtain rfl : c = #[.int .i64 g, u, v, .int .i64 L, .int .i64 I] := by rw [← Array.toArray_toList (xs := c), hc]
  obtain ⟨Ax, cx, rfl, -, -⟩ := spots_len hx xs.length rfl
  obtain ⟨Ad, cd, rfl, -, -⟩ := draws_len hd ds.length rfl
  obtain ⟨lx, hlx⟩ : ∃ l, xs.length = l := ⟨_, rfl⟩
  obtain ⟨ld, hld⟩ : ∃ l, ds.length = l := ⟨_, rfl⟩
  rw [hlx] at hx
  rw [hld] at hd
  rw [hlx, hld]
  have HX := Lib.hid hx
  have HD := Lib.hid hd
  have HLX := Lib.hid hlx
  have HLD := Lib.hid hld
  obtain ⟨sb, hb1, hb2⟩ := smallE_any g xs ds
  have HSM := Lib.hid hb2
  clear hx hd hc hb2 hlx hld
  go_enter Tryz.func7, Tryz.ntmps7
  go_wp2_with fail
  obtain ⟨W0, hW0, b0, B⟩ : ∃ W0, w.alloc (.cells #[.int .i64 g, .slice Ax lx cx, .slice Ad ld cd, .int .i64 L, .int .i64 I] 27) = W0 ∧ Box W0 w.heap.size [.int .i64 g, .slice Ax lx cx, .slice Ad ld cd, .int .i64 L, .int .i64 I] ∧ Below w.heap.size w W0 := ⟨_, rfl, Box.new w _ _, below_new _ _⟩
  rw [hW0]
  clear hW0
  replace HX := Lib.hid (keeps_spots _ _ _ _ _ _ HX.out B B.size)
  replace HD := Lib.hid (keeps_draws _ _ _ _ _ _ HD.out B B.size)
  obtain ⟨G0, hG0⟩ : ∃ G, w.heap.size = G := ⟨_, rfl⟩
  rw [hG0] at b0
  try rw [hG0]
  clear hG0
  refine (HSM.out _ _ W0 HX.out HD.out).mono ?_
  rintro e W1 ⟨rfl, hb⟩
  replace HX := Lib.hid (keeps_spots _ _ _ _ _ _ HX.out hb hb.size)
  replace HD := Lib.hid (keeps_draws _ _ _ _ _ _ HD.out hb hb.size)
  replace b0 := b0.next hb
  replace B := B.trans (hb.mono B.size)
  clear hb
  cases sb with
  | false =>
    clear hb1
    go_wp2_with fail
    refine (awake14_any W1 (HTT.out _ B)).mono ?_
    rintro e W9 ⟨rfl, B9⟩
    go_wp2
    go_ret
    exact ⟨rfl, B.trans (B9.mono B.size)⟩
  | true =>
    obtain ⟨hg5, hxl, hdl, hds, ot, rfl, hok⟩ := hb1 rfl
    have hht : htO ot ≤ 60 := ht_small hxl
    have hn : (spo ot).length ≤ 1000000 := by omega
    have hsh : ∀ m ∈ lvO ot, (secL ds m).length ≤ 4 := fun m _ => secL_four hds m
    clear hb1
    have hpl := partO_len ot L I
    rw [partO_place] at hpl
    have hpo : okT (spo (placeT ot L I)) = true := placeT_ok hok L I
    have hph : htO (placeT ot L I) ≤ 60 := ht_small (by omega)
    have hps : ∀ m ∈ lvO (placeT ot L I), (secL ds m).length ≤ 4 := fun m _ => secL_four hds m
    have hkl := keyO_len g (fun d hd => hds d hd) (placeT ot L I)
    have qb00 := b0.c 0 _ rfl
    have qb01 := b0.c 1 _ rfl
    have qb02 := b0.c 2 _ rfl
    have qb03 := b0.c 3 _ rfl
    have qb04 := b0.c 4 _ rfl
    go_wp2_with fail
    refine ((show Calls _ _ _ _ (fun e W' => ∃ v', e = .returned v' ∧ Spots W'.heap.size W' (spo (placeT ot L I)) [v'] ∧ Below W1.heap.size W1 W') from by have := refPart_any _ ot L I W1 HX.out hn; rwa [partO_place] at this)).mono ?_
    rintro e W2 ⟨vp, rfl, hp, hb⟩
    replace HX := Lib.hid (keeps_spots _ _ _ _ _ _ HX.out hb hb.size)
    replace HD := Lib.hid (keeps_draws _ _ _ _ _ _ HD.out hb hb.size)
    replace b0 := b0.next hb
    replace B := B.trans (hb.mono B.size)
    clear hb
    have HP := Lib.hid hp
    clear hp
    clear qb00 qb01 qb02 qb03 qb04
    obtain ⟨Ap, cp, rfl, -, -⟩ := spots_len HP.out _ rfl
    obtain ⟨lp, hlp⟩ : ∃ l, (spo (placeT ot L I)).length = l := ⟨_, rfl⟩
    rw [hlp] at HP
    rw [hlp]
    clear hlp
    have qb00 := b0.c 0 _ rfl
    have qb01 := b0.c 1 _ rfl
    have qb02 := b0.c 2 _ rfl
    have qb03 := b0.c 3 _ rfl
    have qb04 := b0.c 4 _ rfl
    go_wp2_with fail
    refine (eKey_any g ds (placeT ot L I) _ _ W2 HP.out HD.out hpo hph hps).mono ?_
    rintro e W3 ⟨rfl, hb⟩
    replace HX := Lib.hid (keeps_spots _ _ _ _ _ _ HX.out hb hb.size)
    replace HD := Lib.hid (keeps_draws _ _ _ _ _ _ HD.out hb hb.size)
    replace HP := Lib.hid (keeps_spots _ _ _ _ _ _ HP.out hb hb.size)
    replace b0 := b0.next hb
    replace B := B.trans (hb.mono B.size)
    clear hb
    clear qb00 qb01 qb02 qb03 qb04
    clear HP
    obtain ⟨K, hK⟩ : ∃ K, keyO g ds (placeT ot L I) = K := ⟨_, rfl⟩
    have HBO : Hid (bliO g ds ot L I = if K = [] then [] else bliL g K) := Lib.hid (by unfold bliO; rw [hK])
    rw [hK] at hkl
    rw [hK]
    have hek := tx_none K
    clear hK
    have qb00 := b0.c 0 _ rfl
    have qb01 := b0.c 1 _ rfl
    have qb02 := b0.c 2 _ rfl
    have qb03 := b0.c 3 _ rfl
    have qb04 := b0.c 4 _ rfl
    go_wp2_with fail
    refine (eBlinded_any g ds ot L I _ _ W3 HX.out HD.out hok hht hsh).mono ?_
    rintro e W4 ⟨rfl, hb⟩
    replace HX := Lib.hid (keeps_spots _ _ _ _ _ _ HX.out hb hb.size)
    replace HD := Lib.hid (keeps_draws _ _ _ _ _ _ HD.out hb hb.size)
    replace b0 := b0.next hb
    replace B := B.trans (hb.mono B.size)
    clear hb
    clear qb00 qb01 qb02 qb03 qb04
    obtain ⟨Y, hY⟩ : ∃ Y, bliO g ds ot L I = Y := ⟨_, rfl⟩
    rw [hY] at HBO
    rw [hY]
    have hey := tx_none Y
    clear hY
    by_cases hK0 : K = []
    · have hY0 : Y = [] := by rw [HBO.out, if_pos hK0]
      rw [decide_eq_true hK0] at hek
      rw [decide_eq_true hY0] at hey
      clear hK0 hY0
      go_wp2_with fail
      refine (awake14_any W4 (HTT.out _ B)).mono ?_
      rintro e W5 ⟨rfl, hb⟩
      replace b0 := b0.next hb
      replace B := B.trans (hb.mono B.size)
      clear hb
      go_wp2
      go_ret
      exact ⟨rfl, B⟩
    · have hY0 : Y = bliL g K := by rw [HBO.out, if_neg hK0]
      rw [decide_eq_false hK0] at hek
      subst hY0
      clear hK0 hey
      go_wp2_with fail
      refine (awake14_any W4 (HTT.out _ B)).mono ?_
      rintro e W5 ⟨rfl, hb⟩
      replace b0 := b0.next hb
      replace B := B.trans (hb.mono B.size)
      clear hb
      have qb00 := b0.c 0 _ rfl
      have qb01 := b0.c 1 _ rfl
      have qb02 := b0.c 2 _ rfl
      have qb03 := b0.c 3 _ rfl
      have qb04 := b0.c 4 _ rfl
      go_wp2_with fail
      refine (refBlindL g K W5 (by omega)).mono ?_
      rintro e W6 ⟨rfl, hb⟩
      replace b0 := b0.next hb
      replace B := B.trans (hb.mono B.size)
      clear hb
      go_wp2
      go_ret
      exact ⟨rfl, B⟩

end Go.Proofs.YtjnefacdindamaaGreatDoor
