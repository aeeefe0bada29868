import Derived.Test.YtjnefacdindamaaGreatDoorLabB
import Derived.Test.YtjnefacdindamaaGreatDoorTreeKA
/- The document's At and Part of layer 10. Condition: the slice reads as a tree's spots, or nothing's, of at most a million. -/
namespace Go.Proofs.YtjnefacdindamaaGreatDoor
open Go Go.RowKit
set_option linter.unusedVariables false
set_option maxRecDepth 100000

theorem sub_cons (l r : Tr) (a b : Int) (c : Bool) (p : List Bool) : sub (.inner a b l r) (c :: p) = (sub (if c then r else l) p).map fun x => ((if c then 1 + (flat l).length else 1) + x.1, x.2) := by
  cases c
  · simp only [sub, Bool.false_eq_true, if_false]
    congr 1
    funext x
    rw [Nat.add_comm]
  · simp only [sub, if_true]
    congr 1
    funext x
    simp only [Prod.mk.injEq, and_true]
    omega

theorem and_one {a : Nat} (h : a < 9223372036854775808) : bits .and .i64 (a : Int) 1 = ((a % 2 : Nat) : Int) := by
  show IntKind.i64.wrap ((BitVec.ofInt 64 (a : Int) &&& BitVec.ofInt 64 1).toNat : Int) = _
  have e1 : (BitVec.ofInt 64 (a : Int)).toNat = a := by rw [BitVec.toNat_ofInt]; omega
  have e2 : (BitVec.ofInt 64 (1 : Int)).toNat = 1 := by decide
  rw [BitVec.toNat_and, e1, e2, Nat.and_one_is_mod, IntKind.wrap_i64]
  omega
theorem bit_is (i j : Nat) (h : i < 1152921504606846977) : (bits .and .i64 ((i : Int) / 2 ^ j) 1 == 0) = !decide (i / 2 ^ j % 2 = 1) := by
  have e : (i : Int) / 2 ^ j = ((i / 2 ^ j : Nat) : Int) := by simp
  have hle : i / 2 ^ j ≤ i := Nat.div_le_self _ _
  rw [e, and_one (by omega)]
  rcases Nat.mod_two_eq_zero_or_one (i / 2 ^ j) with h | h
  · rw [h]; rfl
  · rw [h]; rfl

set_option maxRecDepth 100000 in
set_option maxHeartbeats 4000000 in
theorem refAt_any (v : Value) (ot : Option Tr) (L I : Int) (w : World) (h : Spots w.heap.size w (spo ot) [v]) (hn : (spo ot).length ≤ 1000000) :
    Calls Tryz.prog 50 #[v, vM L I] w fun e W' => e = .returned (.int .i64 (atO ot L I)) ∧ Below w.heap.size w W' := by
  have HX := Lib.hid h
  obtain ⟨A, cap, rfl, hlc, hcm, hp⟩ := spots_at h
  have HP := Lib.hid hp
  have hcm2 : cap ≤ 9223372036854775807 := Nat.le_trans hcm (by decide)
  clear h hp hcm
  cases ho : okL L I
  · have HE : Hid (atO ot L I = -1) := Lib.hid (by simp [atO, ho])
    go_enter Tryz.func50, Tryz.ntmps50
    go_wp2_with fail
    obtain ⟨W0, hW0, B⟩ : ∃ W0, w.alloc (.cells #[.int .i64 L, .int .i64 I] 25) = W0 ∧ Below w.heap.size w W0 := ⟨_, rfl, below_new _ _⟩
    rw [hW0]
    clear hW0
    refine (refLright_any L I W0).mono ?_
    rintro e W1 ⟨rfl, hb⟩
    rw [ho]
    clear ho
    go_wp2
    go_ret
    exact ⟨rint HE.out.symm, B.trans (hb.mono B.size)⟩
  · obtain ⟨n, i, rfl, rfl, hk, hi⟩ := (okL_iff L I).1 ho
    have HE := Lib.hid (atO_nat ot hk hi)
    have hi2 : i < 1152921504606846977 := Nat.lt_of_lt_of_le hi (Nat.le_trans (Nat.pow_le_pow_right (by omega) hk) (by decide))
    clear hi
    cases ot with
    | none =>
      have hz : ((((spo none).length : Nat) : Int) == 0) = true := rfl
      go_enter Tryz.func50, Tryz.ntmps50
      go_wp2_with fail
      obtain ⟨W0, hW0, B⟩ : ∃ W0, w.alloc (.cells #[.int .i64 (n : Int), .int .i64 (i : Int)] 25) = W0 ∧ Below w.heap.size w W0 := ⟨_, rfl, below_new _ _⟩
      rw [hW0]
      clear hW0
      refine (refLright_any (n : Int) (i : Int) W0).mono ?_
      rintro e W1 ⟨rfl, hb⟩
      rw [ho]
      clear ho
      go_wp2
      go_ret
      exact ⟨rint HE.out.symm, B.trans (hb.mono B.size)⟩
    | some t =>
      have hxe : spo (some t) = flat t := rfl
      have hse : subO (some t) (path n i) = sub t (path n i) := rfl
      have HEE := HE.out
      rw [hse] at HEE
      replace HE := Lib.hid HEE
      clear HEE hse
      have hpos := flat_pos t
      rw [hxe] at hlc hn
      rw [hxe]
      rw [hxe] at HP HX
      have hz : (((flat t).length : Int) == 0) = false := beq_eq_false_iff_ne.2 (by omega)
      clear hxe
      go_enter Tryz.func50, Tryz.ntmps50
      go_wp2_with fail
      obtain ⟨W0, hW0, b0, B⟩ : ∃ W0, w.alloc (.cells #[.int .i64 (n : Int), .int .i64 (i : Int)] 25) = W0 ∧ Box W0 w.heap.size [.int .i64 (n : Int), .int .i64 (i : Int)] ∧ Below w.heap.size w W0 := ⟨_, rfl, Box.new w _ _, below_new _ _⟩
      rw [hW0]
      clear hW0
      refine (refLright_any (n : Int) (i : Int) W0).mono ?_
      rintro e W1 ⟨rfl, hb⟩
      rw [ho]
      clear ho
      replace b0 := b0.next hb
      replace B := B.trans (hb.mono B.size)
      clear hb
      have q0 := b0.c 0 _ rfl
      have q1 := b0.c 1 _ rfl
      clear b0
      go_wp2_with fail
      go_loop [5, 6] (fun a k => ∃ (j o : Nat) (u : Tr), j ≤ n ∧ a = .int .i64 (o : Int) ∧ k = .int .i64 ((j : Int) - 1) ∧ Hid (sub t (path n i) = (sub u (path j i)).map fun x => (o + x.1, x.2)) ∧ Hid (∃ a r, flat t = a ++ (flat u ++ r) ∧ a.length = o)) (fun _ k => (intOf k + 1).toNat)
      case atStart =>
        exact ⟨n, 0, t, Nat.le_refl _, rfl, rfl, Lib.hid (by simp), Lib.hid ⟨[], [], by simp, rfl⟩⟩
      case round =>
        obtain ⟨j, o, u, hj, rfl, rfl, HS, HD⟩ := hrel
        cases j with
        | zero =>
          have HE2 : Hid (atO (some t) (n : Int) (i : Int) = (o : Int)) := Lib.hid (by rw [HE.out, HS.out]; simp [path, sub_nil])
          have hd : decide (0 ≤ ((0 : Nat) : Int) - 1) = false := by decide
          go_wp2
          go_ret
          exact ⟨rint HE2.out.symm, B⟩
        | succ j =>
          have ek : ((j + 1 : Nat) : Int) - 1 = (j : Int) := by omega
          rw [ek]
          have hd : decide (0 ≤ (j : Int)) = true := decide_eq_true (by omega)
          obtain ⟨a, r, e, hal⟩ := HD.out
          have hup := flat_pos u
          have hol : o < (flat t).length := by rw [e]; simp only [List.length_append]; omega
          have hel : (flat t)[o] = (flat u)[0] := by
            have : ((flat t).drop o)[0]'(by simp; omega) = (flat t)[o] := by simp
            rw [← this]
            have e2 : (flat t).drop o = flat u ++ r := by rw [e, ← hal, List.drop_left]
            simp only [e2]
            rw [List.getElem_append_left]
          obtain ⟨g, off, rfl, hbn, hc0, -, -⟩ := HP.out o hol
          rw [hel] at hc0
          have k0 := (B.cell (p := ⟨g, off + o * 3, none⟩) hbn).trans hc0
          have hio : (o : Int) < ((flat t).length : Int) := by omega
          have hgo : (0 : Int) ≤ (o : Int) := by omega
          have HEL := Lib.hid e
          have HAL := Lib.hid hal
          clear hc0 hel e hal ek
          cases u with
          | leaf x y =>
            have HE2 : Hid (atO (some t) (n : Int) (i : Int) = -1) := Lib.hid (by rw [HE.out, HS.out]; simp [path, sub])
            replace k0 : W1.cell? ⟨g, off + o * 3, none⟩ = some (.bool true) := k0
            go_wp2
            go_ret
            exact ⟨rint HE2.out.symm, B⟩
          | inner x y l r' =>
            replace k0 : W1.cell? ⟨g, off + o * 3, none⟩ = some (.bool false) := k0
            have HC := Lib.hid (bit_is i j hi2)
            have HD1 : Hid (∃ a' r'', flat t = a' ++ (flat l ++ r'') ∧ a'.length = o + 1) := Lib.hid ⟨a ++ [(false, x, y)], flat r' ++ r, by rw [HEL.out]; simp [flat], by simp [HAL.out]⟩
            have HD2 : Hid (∃ a' r'', flat t = a' ++ (flat r' ++ r'') ∧ a'.length = o + 1 + (flat l).length) := Lib.hid ⟨a ++ ((false, x, y) :: flat l), r, by rw [HEL.out]; simp [flat], by simp [HAL.out]; omega⟩
            have HS2 := Lib.hid (HS.out)
            have hc := HC.out
            cases hcc : decide (i / 2 ^ j % 2 = 1)
            · rw [hcc] at hc
              have HSL : Hid (sub t (path n i) = (sub l (path j i)).map fun z => (o + 1 + z.1, z.2)) := Lib.hid (by
                rw [HS.out]
                simp only [path, hcc, sub_cons, Option.map_map, Bool.false_eq_true, if_false]
                congr 1
                funext z
                simp only [Function.comp, Prod.mk.injEq, and_true]
                omega)
              clear hcc HS HS2
              replace hc : (bits .and .i64 ((i : Int) / 2 ^ j) 1 == 0) = true := hc
              go_wp2
              go_round
              case rel => exact ⟨j, o + 1, l, by omega, by go_num, by go_num, HSL, HD1⟩
              case measure => simp [intOf]
            · rw [hcc] at hc
              have HSL : Hid (sub t (path n i) = (sub r' (path j i)).map fun z => (o + 1 + (flat l).length + z.1, z.2)) := Lib.hid (by
                rw [HS.out]
                simp only [path, hcc, sub_cons, Option.map_map, if_true]
                congr 1
                funext z
                simp only [Function.comp, Prod.mk.injEq, and_true]
                omega)
              have HEN : Hid (endI (flat t) ((o : Int) + 1) = ((o + 1 + (flat l).length : Nat) : Int)) := Lib.hid (by
                obtain ⟨a', r'', e', hl'⟩ := HD1.out
                have := endI_part (flat t) (o + 1) l r'' (by rw [e', ← hl', List.drop_left])
                simpa using this)
              clear hcc HS HS2
              replace hc : (bits .and .i64 ((i : Int) / 2 ^ j) 1 == 0) = false := hc
              have HSP := Lib.hid (keeps_spots _ _ _ _ _ _ HX.out B B.size)
              obtain ⟨z, hz2⟩ : ∃ z, o + 1 + (flat l).length = z := ⟨_, rfl⟩
              rw [hz2] at HSL HEN HD2
              clear hz2
              go_wp2_with fail
              refine (refEnd_any _ _ ((o : Int) + 1) W1 HSP.out hn).mono ?_
              rintro e W2 ⟨rfl, rfl⟩
              rw [HEN.out]
              go_wp2
              go_round
              case rel => exact ⟨j, z, r', by omega, by go_num, by go_num, HSL, HD2⟩
              case measure => simp [intOf]

/-- A label's spot and part are there both, or neither. -/
theorem at_part (ot : Option Tr) (L I : Int) : (atO ot L I = -1 ∧ partO ot L I = []) ∨ ∃ (o : Nat) (u : Tr), atO ot L I = (o : Int) ∧ partO ot L I = flat u ∧ o + (flat u).length ≤ (spo ot).length ∧ ((spo ot).drop o).take (flat u).length = flat u ∧ endI (spo ot) (o : Int) = ((o + (flat u).length : Nat) : Int) := by
  unfold atO partO
  by_cases ho : okL L I = true
  · rw [if_pos ho, if_pos ho]
    cases ot with
    | none => exact Or.inl ⟨rfl, rfl⟩
    | some t =>
      cases hs : sub t (path L.toNat I.toNat) with
      | none => left; simp [subO, hs]
      | some x =>
        obtain ⟨o, u⟩ := x
        right
        obtain ⟨h1, h2⟩ := sub_part hs
        exact ⟨o, u, by simp [subO, hs], by simp [subO, hs], sub_le hs, h1, h2⟩
  · rw [if_neg ho, if_neg ho]
    exact Or.inl ⟨rfl, rfl⟩
set_option maxRecDepth 100000 in
set_option maxHeartbeats 4000000 in
theorem refPart_any (v : Value) (ot : Option Tr) (L I : Int) (w : World) (h : Spots w.heap.size w (spo ot) [v]) (hn : (spo ot).length ≤ 1000000) :
    Calls Tryz.prog 27 #[v, vM L I] w fun e W' => ∃ v', e = .returned v' ∧ Spots W'.heap.size W' (partO ot L I) [v'] ∧ Below w.heap.size w W' := by
  have HX := Lib.hid h
  obtain ⟨A, cap, rfl, hlc, hcm, _⟩ := spots_at h
  have hcm2 : cap ≤ 9223372036854775807 := Nat.le_trans hcm (by decide)
  clear h hcm
  go_enter Tryz.func27, Tryz.ntmps27
  go_wp2_with fail
  obtain ⟨W0, hW0, B⟩ : ∃ W0, w.alloc (.cells #[.int .i64 L, .int .i64 I] 25) = W0 ∧ Below w.heap.size w W0 := ⟨_, rfl, below_new _ _⟩
  rw [hW0]
  clear hW0
  refine (refAt_any _ ot L I W0 (keeps_spots _ _ _ _ _ _ HX.out B B.size) hn).mono ?_
  rintro e W1 ⟨rfl, hb⟩
  replace B := B.trans (hb.mono B.size)
  clear hb
  rcases at_part ot L I with ⟨ha, hp⟩ | ⟨o, u, ha, hp, hle, hpt, hen⟩
  · rw [ha]
    have HPP := Lib.hid hp
    clear ha hp
    go_wp2
    go_ret
    rw [HPP.out]
    exact ⟨_, rfl, own_spots (World.ownsRow_nil _ w.heap.size _ _), B⟩
  · rw [ha]
    have HPP := Lib.hid hp
    have HEN := Lib.hid hen
    obtain ⟨m, hm⟩ : ∃ m, (flat u).length = m := ⟨_, rfl⟩
    rw [hm] at hle hpt
    have hum : m ≤ 1000000 := by omega
    have HSP := Lib.hid (keeps_spots _ _ _ _ _ _ HX.out B B.size)
    obtain ⟨z, hz⟩ : ∃ z, o + m = z := ⟨_, rfl⟩
    rw [hz] at hle
    obtain ⟨A1, hr1, hS1⟩ := cut_mid HSP.out hlc o z (by omega) hle
    have e1 : z - o = m := by omega
    rw [e1] at hr1 hS1
    rw [hpt] at hS1
    have HS1 := Lib.hid hS1
    have HR1 := Lib.hid hr1
    have HM := Lib.hid hm
    have HZ := Lib.hid hz
    have hoz : o ≤ z := by omega
    clear ha hp hpt hen hm hS1 hr1 hz e1
    have hneg : ¬ ((o : Int) < 0) := by omega
    go_wp2_with fail
    have B2 := below_new W1 (.cells #[] 60)
    refine (refEnd_any _ _ (o : Int) _ (keeps_spots _ _ _ _ _ _ HSP.out B2 B2.size) hn).mono ?_
    rintro e W2 ⟨rfl, rfl⟩
    rw [HEN.out, HM.out, HZ.out]
    have hr1 := HR1.out
    go_wp2_with (at_builtin; refine append_spots _ rfl _ _ rfl W1.heap.size _ _ _ rfl (owns_empty W1 60 3 (Nat.le_refl _)) W1.heap.size _ (flat u) (congrArg (fun q => Value.slice A1 q (cap - o)) HM.out.symm) (keeps_spots _ _ _ _ _ _ (by rw [HM.out]; exact HS1.out) B2 (Nat.le_refl _)) ?c1 ?c2 ?_)
    case c1 => rw [HM.out]; omega
    case c2 => simp
    intro v' w' hown' hgr
    have B3 := ((Below.refl W1.heap.size W1).alloc (Nat.le_refl _) (.cells #[] 60)).grown hgr (by simp) (by intro k hk; simp [Value.ownBlock] at hk; omega)
    go_wp2
    go_ret
    rw [HPP.out]
    exact ⟨_, rfl, own_spots (by simpa using hown'), B.trans (B3.mono B.size)⟩

end Go.Proofs.YtjnefacdindamaaGreatDoor
