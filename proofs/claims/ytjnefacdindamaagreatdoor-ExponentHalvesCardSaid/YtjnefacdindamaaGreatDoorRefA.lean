/- Several texts in one: each part says what it proves, and under which conditions. -/
import Derived.Test.YtjnefacdindamaaGreatDoorModFA
import Derived.Test.YtjnefacdindamaaGreatDoorLenA
import Derived.Laws.Bits64b

/- The document's own answers for layer 1 (package lodgeref01), by the numbers that the limbs are: Trim, Compare, Add, Sub, Bits, Bit, Double. Conditions: the slices read as limbs; lengths below 2^40. -/
namespace Go.Proofs.YtjnefacdindamaaGreatDoor
open Go.RowKit Go.Shelf Num
set_option linter.unusedVariables false
set_option maxRecDepth 100000

theorem cmpF_upto (xs ys : List Nat) (hx : Ok xs) (hy : Ok ys) (j : Nat) : cmpF (upto (pairAt xs ys hx hy) (j + 1)) = if cmpN (lat xs j) (lat ys j) = 0 then cmpF (upto (pairAt xs ys hx hy) j) else cmpN (lat xs j) (lat ys j) := by
  rw [upto_succ, cmpF_snoc]; rfl
theorem addF_upto (c : Nat) (xs ys : List Nat) (hx : Ok xs) (hy : Ok ys) (k : Nat) : addF c (upto (pairAt xs ys hx hy) (k + 1)) = ((addF c (upto (pairAt xs ys hx hy) k)).1 ++ [addLo (lat xs k) (lat ys k) (addF c (upto (pairAt xs ys hx hy) k)).2], addHi (lat xs k) (lat ys k) (addF c (upto (pairAt xs ys hx hy) k)).2) := by
  rw [upto_succ, addF_snoc]; rfl
theorem subF_upto (xs ys : List Nat) (hx : Ok xs) (hy : Ok ys) (k : Nat) : subF (upto (pairAt xs ys hx hy) (k + 1)) = ((subF (upto (pairAt xs ys hx hy) k)).1 ++ [subLo (lat xs k) (lat ys k) (subF (upto (pairAt xs ys hx hy) k)).2], subHi (lat xs k) (lat ys k) (subF (upto (pairAt xs ys hx hy) k)).2) := by
  rw [upto_succ, subF_snoc]; rfl
theorem one_new (w : World) (x : Nat) (hx : x < M) : Lim (w.alloc (.cells #[.int .u64 (x : Int)] 74)).heap.size (w.alloc (.cells #[.int .u64 (x : Int)] 74)) (.slice (some ⟨w.heap.size, 0, none⟩) 1 1) [x] := lim_lit1 w x hx

set_option maxHeartbeats 1000000 in
theorem refTrim_any (v : Value) (xs : List Nat) (w : World) (hL : Lim w.heap.size w v xs) (hlen : xs.length ≤ 1099511627777) :
    Calls Tryz.prog 59 #[v] w (Gives (val xs) w) := by
  have ho := hL.ok
  have HT := Lib.hid (limbs_val ho)
  have ow0 : (w.alloc (.cells #[] 74)).ownsRow w.heap.size 74 1 (.slice (some ⟨w.heap.size, 0, none⟩) 0 0) 0 [] := World.ownsRow_lit w #[] 0 (Nat.le_refl _) (by unfold maxLen; omega) (by simp)
  obtain ⟨A, cap, rfl, hc, hn, _, hr⟩ := id hL
  cases A with
  | none =>
    have hc0 : cap = 0 := hn rfl
    subst hc0
    obtain rfl : xs = [] := List.eq_nil_of_length_eq_zero (by omega)
    clear hr hn
    have hk0 : hgt [] = 0 := rfl
    have HK := Lib.hid hk0
    clear hk0
    go_enter Tryz.func59, Tryz.ntmps59
    go_wp2
    go_loop [3] (fun t => t = .int .i64 0) (fun t => 0)
    case atStart => rfl
    case round =>
      obtain rfl := hrel
      have hLk := (hL.take (0) (by omega)).alloc (.cells #[] 74)
      have hkc : 0 ≤ 0 := by omega
      have hkI : ((0 : Nat) : Int) ≤ ((0 : Nat) : Int) := by omega
      have hkn : decide (((0 : Nat) : Int) < 0) = false := by simp; try omega
      go_wp2_with (at_builtin; refine append_lim _ (by rfl) (.tmp 18) (.tmp 21) rfl w.heap.size (.slice (some ⟨w.heap.size, 0, none⟩) 0 0) 0 [] rfl ow0 _ (none) (0) (0) (([] : List Nat).take 0) rfl hLk (by omega) (by simp) ?_; intro v' w1 own1 grow1)
      go_ret
      have own2 : w1.ownsRow w.heap.size 74 1 v' (0 + (([] : List Nat).take 0).length) (Us (([] : List Nat).take 0)) := by simpa using own1
      exact ⟨v', rfl, by rw [HT.out, ← trim_take, HK.out]; exact Lim.of_own own2 (ok_take ho _) (Nat.le_refl _), ((Below.refl _ _).alloc (Nat.le_refl _) _).grown grow1 (by simp) (fun k e => by simp [Value.ownBlock] at e; omega)⟩
  | some ad =>
    go_enter Tryz.func59, Tryz.ntmps59
    go_wp2
    go_loop [3] (fun t => ∃ k : Nat, k ≤ xs.length ∧ t = .int .i64 k ∧ hgt (xs.take k) = hgt xs) (fun t => (intOf t).toNat)
    case atStart => exact ⟨xs.length, Nat.le_refl _, rfl, by rw [List.take_length]⟩
    case round =>
      obtain ⟨k, hk, rfl, hh⟩ := hrel
      have HH := Lib.hid hh
      clear hh
      rcases Nat.eq_zero_or_pos k with rfl | hp
      · have HK := Lib.hid (hgt_end_zero xs HH.out)
        have hLk := (hL.take (0) (by omega)).alloc (.cells #[] 74)
        have hkc : 0 ≤ cap := by omega
        have hkI : ((0 : Nat) : Int) ≤ ((cap : Nat) : Int) := by omega
        have hkn : decide (((0 : Nat) : Int) < 0) = false := by simp; try omega
        go_wp2_with (at_builtin; refine append_lim _ (by rfl) (.tmp 18) (.tmp 21) rfl w.heap.size (.slice (some ⟨w.heap.size, 0, none⟩) 0 0) 0 [] rfl ow0 _ (some ad) (0) (cap) (xs.take (0)) rfl hLk (by omega) (by simp) ?_; intro v' w1 own1 grow1)
        go_ret
        have own2 : w1.ownsRow w.heap.size 74 1 v' (0 + (xs.take (0)).length) (Us (xs.take (0))) := by simpa using own1
        exact ⟨v', rfl, by rw [HT.out, ← trim_take, HK.out]; exact Lim.of_own own2 (ok_take ho _) (Nat.le_refl _), ((Below.refl _ _).alloc (Nat.le_refl _) _).grown grow1 (by simp) (fun k e => by simp [Value.ownBlock] at e; omega)⟩
      · obtain ⟨j, rfl⟩ : ∃ j, k = j + 1 := ⟨k - 1, by omega⟩
        obtain ⟨b, off, hA, hb, hcell⟩ := hr (by omega)
        injection hA with hA
        subst hA
        have hck := hcell j (by omega)
        clear hcell hr
        by_cases hz : lat xs j = 0
        · have H1 := Lib.hid ((hgt_step xs j (by omega) hz).symm.trans HH.out)
          have hcz : w.cell? ⟨b, off + j, none⟩ = some (.int .u64 0) := by rw [hck, hz]; rfl
          clear hck hz HH
          go_wp2
          go_round
          case rel => exact ⟨j, by omega, rfl, H1.out⟩
          case measure => simp [intOf]
        · have HK := Lib.hid (hgt_end xs j (by omega) HH.out hz)
          have hne : (((lat xs j : Nat) : Int) == 0) = false := by simpa using hz
          clear HH hz
          have hLk := (hL.take (j + 1) (by omega)).alloc (.cells #[] 74)
          have hkc : j + 1 ≤ cap := by omega
          have hkI : ((j + 1 : Nat) : Int) ≤ ((cap : Nat) : Int) := by omega
          have hkn : decide (((j + 1 : Nat) : Int) < 0) = false := by simp; try omega
          go_wp2_with (at_builtin; refine append_lim _ (by rfl) (.tmp 18) (.tmp 21) rfl w.heap.size (.slice (some ⟨w.heap.size, 0, none⟩) 0 0) 0 [] rfl ow0 _ (some ⟨b, off, none⟩) (j + 1) (cap) (xs.take (j + 1)) rfl hLk (by omega) (by simp) ?_; intro v' w1 own1 grow1)
          go_ret
          have own2 : w1.ownsRow w.heap.size 74 1 v' (0 + (xs.take (j + 1)).length) (Us (xs.take (j + 1))) := by simpa using own1
          exact ⟨v', rfl, by rw [HT.out, ← trim_take, HK.out]; exact Lim.of_own own2 (ok_take ho _) (Nat.le_refl _), ((Below.refl _ _).alloc (Nat.le_refl _) _).grown grow1 (by simp) (fun k e => by simp [Value.ownBlock] at e; omega)⟩

set_option maxHeartbeats 2000000 in
theorem refCompare_any (v u : Value) (xs ys : List Nat) (w : World) (hLa : Lim w.heap.size w v xs) (hLb : Lim w.heap.size w u ys) (hlx : xs.length ≤ 1099511627776) (hly : ys.length ≤ 1099511627776) :
    Calls Tryz.prog 42 #[v, u] w fun e W' => e = .returned (.int .i64 (cmpN (val xs) (val ys))) ∧ w = W' := by
  have hx := hLa.ok
  have hy := hLb.ok
  obtain ⟨A, ca, rfl, _⟩ := id hLa
  obtain ⟨B, cb, rfl, _⟩ := id hLb
  go_enter Tryz.func42, Tryz.ntmps42
  go_wp2
  go_loop [5] (fun i => ∃ k : Nat, k ≤ max xs.length ys.length ∧ i = .int .i64 ((k : Int) - 1) ∧ cmpF (upto (pairAt xs ys hx hy) k) = cmpN (val xs) (val ys)) (fun i => (intOf i + 1).toNat)
  case atStart =>
    refine ⟨max xs.length ys.length, Nat.le_refl _, congrArg (Value.int .i64) (by omega), ?_⟩
    rw [cmpF_total, av_upto xs ys hx hy _ (by omega), bv_upto xs ys hx hy _ (by omega)]
  case round =>
    obtain ⟨k, hk, rfl, hc⟩ := hrel
    have HC := Lib.hid hc
    clear hc
    rcases Nat.eq_zero_or_pos k with rfl | hp
    · go_wp2
      go_ret
      exact ⟨ret_int (by rw [← HC.out]; rfl), rfl⟩
    · obtain ⟨j, rfl⟩ : ∃ j, k = j + 1 := ⟨k - 1, by omega⟩
      have hs := HC.out
      rw [cmpF_upto] at hs
      have hd1 : decide ((0 : Int) ≤ ((j + 1 : Nat) : Int) - 1) = true := decide_eq_true (by omega)
      have hd2 : decide ((1 : Int) ≤ ((j + 1 : Nat) : Int)) = true := decide_eq_true (by omega)
      by_cases he : lat xs j = lat ys j
      · rw [if_pos (show cmpN (lat xs j) (lat ys j) = 0 by rw [he, cmpN_eq])] at hs
        have HS := Lib.hid hs
        have hne : (((lat xs j : Nat) : Int) != ((lat ys j : Nat) : Int)) = false := by rw [he]; simp
        clear hs he
        go_wp2_with fail
        refine (limb_any _ _ xs j _ hLa).mono ?_
        rintro e w' ⟨rfl, rfl⟩
        go_wp2_with fail
        refine (limb_any _ _ ys j _ hLb).mono ?_
        rintro e w' ⟨rfl, rfl⟩
        go_wp2
        go_round
        case rel => exact ⟨j, by omega, by go_num, HS.out⟩
        case measure => simp [intOf]
      · have hcn : cmpN (lat xs j) (lat ys j) ≠ 0 := fun h => he (cmpN_zero h)
        rw [if_neg hcn] at hs
        have HS := Lib.hid hs
        have hne : (((lat xs j : Nat) : Int) != ((lat ys j : Nat) : Int)) = true := by simp; omega
        clear hs hcn
        rcases Nat.lt_or_gt_of_ne he with hl | hl
        · have hd3 : decide (lat xs j < lat ys j) = true := by simpa using hl
          have H1 := Lib.hid (cmpN_lt hl)
          clear he
          go_wp2_with fail
          refine (limb_any _ _ xs j _ hLa).mono ?_
          rintro e w' ⟨rfl, rfl⟩
          go_wp2_with fail
          refine (limb_any _ _ ys j _ hLb).mono ?_
          rintro e w' ⟨rfl, rfl⟩
          go_wp2_with fail
          refine (limb_any _ _ xs j _ hLa).mono ?_
          rintro e w' ⟨rfl, rfl⟩
          go_wp2_with fail
          refine (limb_any _ _ ys j _ hLb).mono ?_
          rintro e w' ⟨rfl, rfl⟩
          go_wp2
          go_ret
          exact ⟨ret_int (by rw [← HS.out, H1.out]), rfl⟩
        · have hd3 : decide (lat xs j < lat ys j) = false := by simp; omega
          have H1 := Lib.hid (cmpN_gt hl)
          clear he
          go_wp2_with fail
          refine (limb_any _ _ xs j _ hLa).mono ?_
          rintro e w' ⟨rfl, rfl⟩
          go_wp2_with fail
          refine (limb_any _ _ ys j _ hLb).mono ?_
          rintro e w' ⟨rfl, rfl⟩
          go_wp2_with fail
          refine (limb_any _ _ xs j _ hLa).mono ?_
          rintro e w' ⟨rfl, rfl⟩
          go_wp2_with fail
          refine (limb_any _ _ ys j _ hLb).mono ?_
          rintro e w' ⟨rfl, rfl⟩
          go_wp2
          go_ret
          exact ⟨ret_int (by rw [← HS.out, H1.out]), rfl⟩

set_option maxRecDepth 100000 in
set_option maxHeartbeats 4000000 in
theorem refAdd_any (v u : Value) (xs ys : List Nat) (w : World) (hLa : Lim w.heap.size w v xs) (hLb : Lim w.heap.size w u ys) (hlx : xs.length ≤ 1099511627776) (hly : ys.length ≤ 1099511627776) :
    Calls Tryz.prog 69 #[v, u] w (Gives (val xs + val ys) w) := by
  have hx := hLa.ok
  have hy := hLb.ok
  obtain ⟨A, ca, rfl, _⟩ := id hLa
  obtain ⟨B, cb, rfl, _⟩ := id hLb
  go_enter Tryz.func69, Tryz.ntmps69
  go_wp2
  go_loopw [5, 6, 7] (fun o c i wr => ∃ (k : Nat) (L : List Nat) (cc : Nat), k ≤ max xs.length ys.length ∧ i = .int .i64 k ∧ c = .int .u64 (cc : Int) ∧ addF 0 (upto (pairAt xs ys hx hy) k) = (L, cc) ∧
      wr.ownsRow w.heap.size 74 1 o L.length (Us L) ∧ Below w.heap.size w wr)
    (fun _ _ i _ => max xs.length ys.length - (intOf i).toNat)
  case atStart => exact ⟨0, [], 0, Nat.zero_le _, rfl, rfl, rfl, World.ownsRow_nil _ _ _ _, Below.refl _ _⟩
  case round =>
    obtain ⟨k, L, c, hk, rfl, rfl, hP, own, hB⟩ := hrel
    obtain ⟨i1, i2, i3, i4⟩ := addF_inv (c := 0) (by omega) (upto (pairAt xs ys hx hy) k)
    rw [upto_length, hP] at i2
    rw [hP] at i1 i3
    dsimp only at i1 i2 i3
    clear i4
    by_cases hlt : k < max xs.length ys.length
    · have hsn := addF_upto 0 xs ys hx hy k
      rw [hP] at hsn
      have HS := Lib.hid hsn
      clear hsn hP
      have hll : L.length ≤ k := by omega
      clear i2
      have hcall := add64 (lat xs k) (lat ys k) c i1
      have La := hLa.next (hB)
      have Lb := hLb.next (hB)
      have hd : decide (k < max xs.length ys.length) = true := by simpa using hlt
      have hd' : decide ((k : Int) < max (xs.length : Int) (ys.length : Int)) = true := decide_eq_true (by omega)
      have hlo : addLo (lat xs k) (lat ys k) c < M := addLo_lt _ _ _
      go_wp2_with fail
      refine (limb_any _ _ xs k _ La).mono ?_
      rintro e w' ⟨rfl, rfl⟩
      go_wp2_with fail
      refine (limb_any _ _ ys k _ Lb).mono ?_
      rintro e w' ⟨rfl, rfl⟩
      go_wp2_with (at_builtin; refine append_lim _ (by rfl) (.tmp 30) (.tmp 32) rfl w.heap.size u5 L.length (Us L) rfl (own.alloc _) _ (some ⟨wr.heap.size, 0, none⟩) 1 1 [addLo (lat xs k) (lat ys k) c] rfl (lim_lit1 wr _ hlo) (by omega) (by have := hB.size; simp; omega) ?_; intro v1 w1 own1 grow1)
      have b1 : Below w.heap.size w w1 := (hB.alloc hB.size _).grown grow1 (by have := hB.size; simp; omega) (fun k e => (own.lt k e).1)
      go_roundw
      case rel => exact ⟨k + 1, _, _, by omega, by go_num, rfl, HS.out, by rw [Us_append, List.length_append]; exact own1, b1⟩
      case measure => simp [intOf]; omega
    · obtain rfl : k = max xs.length ys.length := by omega
      have hll : L.length ≤ max xs.length ys.length := by omega
      have ht := addF_total (c := 0) (by omega) (upto (pairAt xs ys hx hy) (max xs.length ys.length))
      rw [av_upto xs ys hx hy _ (by omega), bv_upto xs ys hx hy _ (by omega), hP] at ht
      have hc1 : c < M := Nat.lt_of_le_of_lt i1 (by decide)
      have hok := ok_append i3 (ok_one hc1)
      have HT := Lib.hid (ht.trans (limbs_val hok).symm)
      clear ht hP i1
      have hd : decide (max xs.length ys.length < max xs.length ys.length) = false := by simp
      have hd' : decide (((max xs.length ys.length : Nat) : Int) < max (xs.length : Int) (ys.length : Int)) = false := decide_eq_false (by omega)
      go_wp2_with (at_builtin; refine append_lim _ (by rfl) (.tmp 35) (.tmp 37) rfl w.heap.size u5 L.length (Us L) rfl (own.alloc _) _ (some ⟨wr.heap.size, 0, none⟩) 1 1 [c] rfl (lim_lit1 wr c hc1) (by omega) (by have := hB.size; simp; omega) ?_; intro v1 w1 own1 grow1)
      have b1 : Below w.heap.size w w1 := (hB.alloc hB.size _).grown grow1 (by have := hB.size; simp; omega) (fun k e => (own.lt k e).1)
      have own2 : w1.ownsRow w.heap.size 74 1 v1 (L.length + 1) (Us (L ++ [c])) := by rw [Us_append]; exact own1
      have Lv := Lim.of_own own2 hok (Nat.le_refl _)
      clear own1 grow1
      refine (refTrim_any _ (L ++ [c]) _ Lv (by simp; omega)).mono ?_
      rintro e W2 ⟨r, rfl, hR, hb⟩
      go_wp2
      go_ret
      exact ⟨r, rfl, by rw [show val xs + val ys = val xs + val ys + 0 from rfl, HT.out]; exact hR, b1.trans (hb.mono b1.size)⟩

set_option maxRecDepth 100000 in
set_option maxHeartbeats 4000000 in
theorem refSub_any (v u : Value) (xs ys : List Nat) (w : World) (hLa : Lim w.heap.size w v xs) (hLb : Lim w.heap.size w u ys) (hlx : xs.length ≤ 1099511627776) (hly : ys.length ≤ 1099511627776) (hle : val ys ≤ val xs) :
    Calls Tryz.prog 68 #[v, u] w fun e W' => ∃ r, e = .returned (.tuple #[r, .bool true]) ∧ Lim W'.heap.size W' r (limbs (val xs - val ys)) ∧ Below w.heap.size w W' := by
  have hx := hLa.ok
  have hy := hLb.ok
  obtain ⟨A, ca, rfl, _⟩ := id hLa
  obtain ⟨B, cb, rfl, _⟩ := id hLb
  have hcm : decide (cmpN (val xs) (val ys) < 0) = false := by
    unfold cmpN
    rw [if_neg (by omega)]
    split <;> simp
  have HLE := Lib.hid hle
  clear hle
  go_enter Tryz.func68, Tryz.ntmps68
  go_wp2_with fail
  refine (refCompare_any _ _ xs ys _ hLa hLb hlx hly).mono ?_
  rintro e w' ⟨rfl, rfl⟩
  go_wp2
  go_loopw [6, 7, 8] (fun o c i wr => ∃ (k : Nat) (L : List Nat) (cc : Nat), k ≤ max xs.length ys.length ∧ i = .int .i64 k ∧ c = .int .u64 (cc : Int) ∧ subF (upto (pairAt xs ys hx hy) k) = (L, cc) ∧
      wr.ownsRow w.heap.size 74 1 o L.length (Us L) ∧ Below w.heap.size w wr)
    (fun _ _ i _ => max xs.length ys.length - (intOf i).toNat)
  case atStart => exact ⟨0, [], 0, Nat.zero_le _, rfl, rfl, rfl, World.ownsRow_nil _ _ _ _, Below.refl _ _⟩
  case round =>
    obtain ⟨k, L, c, hk, rfl, rfl, hP, own, hB⟩ := hrel
    obtain ⟨i1, i2, i3, i4⟩ := subF_inv (upto (pairAt xs ys hx hy) k)
    rw [upto_length, hP] at i2
    rw [hP] at i1 i3
    dsimp only at i1 i2 i3
    clear i4
    by_cases hlt : k < max xs.length ys.length
    · have hsn := subF_upto xs ys hx hy k
      rw [hP] at hsn
      have HS := Lib.hid hsn
      clear hsn hP
      have hll : L.length ≤ k := by omega
      clear i2
      have hcall := sub64 (lat xs k) (lat ys k) c i1
      have La := hLa.next (hB)
      have Lb := hLb.next (hB)
      have hd : decide (k < max xs.length ys.length) = true := by simpa using hlt
      have hd' : decide ((k : Int) < max (xs.length : Int) (ys.length : Int)) = true := decide_eq_true (by omega)
      have hlo : subLo (lat xs k) (lat ys k) c < M := subLo_lt _ _ _
      go_wp2_with fail
      refine (limb_any _ _ xs k _ La).mono ?_
      rintro e w' ⟨rfl, rfl⟩
      go_wp2_with fail
      refine (limb_any _ _ ys k _ Lb).mono ?_
      rintro e w' ⟨rfl, rfl⟩
      go_wp2_with (at_builtin; refine append_lim _ (by rfl) (.tmp 35) (.tmp 37) rfl w.heap.size u6 L.length (Us L) rfl (own.alloc _) _ (some ⟨wr.heap.size, 0, none⟩) 1 1 [subLo (lat xs k) (lat ys k) c] rfl (lim_lit1 wr _ hlo) (by omega) (by have := hB.size; simp; omega) ?_; intro v1 w1 own1 grow1)
      have b1 : Below w.heap.size w w1 := (hB.alloc hB.size _).grown grow1 (by have := hB.size; simp; omega) (fun k e => (own.lt k e).1)
      go_roundw
      case rel => exact ⟨k + 1, _, _, by omega, by go_num, rfl, HS.out, by rw [Us_append, List.length_append]; exact own1, b1⟩
      case measure => simp [intOf]; omega
    · obtain rfl : k = max xs.length ys.length := by omega
      have hll : L.length ≤ max xs.length ys.length := by omega
      have ht := subF_total (upto (pairAt xs ys hx hy) (max xs.length ys.length))
      rw [av_upto xs ys hx hy _ (by omega), bv_upto xs ys hx hy _ (by omega), hP] at ht
      have HT := Lib.hid ((ht HLE.out).trans (limbs_val i3).symm)
      clear ht hP i1
      have Lv := Lim.of_own own i3 (Nat.le_refl _)
      have hd : decide (max xs.length ys.length < max xs.length ys.length) = false := by simp
      have hd' : decide (((max xs.length ys.length : Nat) : Int) < max (xs.length : Int) (ys.length : Int)) = false := decide_eq_false (by omega)
      go_wp2_with fail
      refine (refTrim_any _ L _ Lv (by omega)).mono ?_
      rintro e W2 ⟨r, rfl, hR, hb⟩
      go_wp2
      go_ret2
      exact ⟨r, rfl, by rw [HT.out]; exact hR, hB.trans (hb.mono hB.size)⟩

set_option maxHeartbeats 1000000 in
theorem refSub_no (v u : Value) (xs ys : List Nat) (w : World) (hLa : Lim w.heap.size w v xs) (hLb : Lim w.heap.size w u ys) (hlx : xs.length ≤ 1099511627776) (hly : ys.length ≤ 1099511627776) (hle : val xs < val ys) :
    Calls Tryz.prog 68 #[v, u] w fun e W' => e = .returned (.tuple #[.slice none 0 0, .bool false]) ∧ w = W' := by
  obtain ⟨A, ca, rfl, _⟩ := id hLa
  obtain ⟨B, cb, rfl, _⟩ := id hLb
  have hcm : decide (cmpN (val xs) (val ys) < 0) = true := by rw [cmpN_lt hle]; rfl
  clear hle
  go_enter Tryz.func68, Tryz.ntmps68
  go_wp2_with fail
  refine (refCompare_any _ _ xs ys _ hLa hLb hlx hly).mono ?_
  rintro e w' ⟨rfl, rfl⟩
  go_wp2
  go_ret2
  exact ⟨rfl, rfl⟩

end Go.Proofs.YtjnefacdindamaaGreatDoor


/- The document's own answers for layer 1 (package lodgeref01), by the numbers that the limbs are: Bits, Bit, Double. Conditions: the slices read as limbs; lengths below 2^40. -/
namespace Go.Proofs.YtjnefacdindamaaGreatDoor
open Go.RowKit Go.Shelf Num
set_option linter.unusedVariables false
set_option maxRecDepth 100000

set_option maxHeartbeats 1000000 in
theorem refBits_any (v : Value) (xs : List Nat) (w : World) (hL : Lim w.heap.size w v xs) (hlx : xs.length ≤ 1099511627776) :
    Calls Tryz.prog 63 #[v] w fun e W' => e = .returned (.int .i64 ((nbits (val xs) : Nat) : Int)) ∧ Below w.heap.size w W' := by
  have ho := hL.ok
  obtain ⟨A, ca, rfl, _⟩ := id hL
  have hlen : (limbs (val xs)).length ≤ 1099511627776 := by
    rw [limbs_val ho]
    have := hgt_le xs
    unfold hgt at this
    omega
  go_enter Tryz.func63, Tryz.ntmps63
  go_wp2_with fail
  refine (refTrim_any _ xs _ hL (by omega)).mono ?_
  rintro e W1 ⟨r, rfl, hR, hB⟩
  have hv := val_limbs (val xs)
  have ht := trim_limbs (val xs)
  have hol := ok_limbs (val xs)
  generalize limbs (val xs) = L at *
  rcases Nat.eq_zero_or_pos L.length with h0 | hp
  · have hL0 : L = [] := List.eq_nil_of_length_eq_zero h0
    subst hL0
    have HV := Lib.hid (show nbits (val xs) = 0 by rw [← hv]; rfl)
    obtain ⟨A1, c1, rfl, _⟩ := hR
    clear hv ht
    go_wp2
    go_ret
    exact ⟨ret_int (by rw [HV.out]; rfl), hB⟩
  · obtain ⟨j, hj⟩ : ∃ j, L.length = j + 1 := ⟨L.length - 1, by omega⟩
    obtain ⟨e1, e2, e3⟩ := nbits_limbs L hol j (by unfold hgt; rw [ht]; exact hj)
    rw [hv] at e1
    have E1 := Lib.hid e1
    have hnb := nbits_lim (ok_get hol j)
    have hlim := ok_get hol j
    obtain ⟨b, off, cap, rfl, hcap, hb, hcell⟩ := hR.at_ hp
    have hck := hcell j e3
    rw [hj] at hcap ⊢
    clear hcell hv ht e1 e2 hR hp
    have hd : (((j : Int) + 1) == 0) = false := by simp; omega
    go_wp2_with fail
    refine (len64_any _ _ hlim).mono ?_
    rintro e w' ⟨rfl, rfl⟩
    go_wp2
    go_ret
    exact ⟨ret_int (by rw [E1.out]; omega), hB⟩

set_option maxHeartbeats 1000000 in
theorem refBit_neg (A : Option Addr) (n c : Nat) (i : Int) (w : World) (hi : i < 0) :
    Calls Tryz.prog 65 #[.slice A n c, .int .i64 i] w fun e w' => e = .returned (.int .i64 0) ∧ w = w' := by
  go_enter Tryz.func65, Tryz.ntmps65
  go_wp2
  go_ret
  exact ⟨rfl, rfl⟩

set_option maxHeartbeats 1000000 in
theorem refBit_any (n₀ : Nat) (v : Value) (xs : List Nat) (k : Nat) (w : World) (hL : Lim n₀ w v xs) (hk : (k : Int) ≤ 9223372036854775807) :
    Calls Tryz.prog 65 #[v, .int .i64 (k : Int)] w fun e w' => e = .returned (.int .i64 ((bitN (val xs) k : Nat) : Int)) ∧ w = w' := by
  have ho := hL.ok
  have HB := Lib.hid (bitN_limb xs ho k)
  obtain ⟨A, ca, rfl, _⟩ := id hL
  go_enter Tryz.func65, Tryz.ntmps65
  go_wp2_with fail
  have e1 : (k : Int) / 64 = ((k / 64 : Nat) : Int) := by omega
  rw [e1]
  refine (limb_any n₀ _ xs (k / 64) _ hL).mono ?_
  rintro e w' ⟨rfl, rfl⟩
  clear e1
  go_wp2
  go_ret
  exact ⟨ret_int (by rw [← HB.out]; exact bit_form _ _ (ok_get ho _)), rfl⟩

theorem low_bit_i64 (b : Int) : IntKind.u64.wrap (bits BinOp.and IntKind.i64 b 1) = (((b % 2).toNat : Nat) : Int) := by
  have h1 : (BitVec.ofInt 64 b).toNat = (b % 18446744073709551616).toNat := by rw [BitVec.toNat_ofInt]; rfl
  have h2 : (BitVec.ofInt 64 1).toNat = 1 := by decide
  have e : bits BinOp.and IntKind.i64 b 1 = IntKind.i64.wrap ((BitVec.ofInt 64 b &&& BitVec.ofInt 64 1).toNat : Int) := rfl
  rw [e, BitVec.toNat_and, h1, h2, Nat.and_one_is_mod]
  have h3 : ((b % 18446744073709551616).toNat % 2) = (b % 2).toNat := by omega
  rw [h3, IntKind.wrap_i64, IntKind.wrap_u64]
  omega

/-- Twice a limb and a bit more, as the document reckons it. -/
theorem dbl_lo {x c : Nat} (hx : x < M) (hc : c ≤ 1) : bits BinOp.or IntKind.u64 (((2 * x % M : Nat)) : Int) (c : Int) = ((addLo x x c : Nat) : Int) := by
  unfold M at hx
  have h1 : 2 * x % M < 18446744073709551616 := Nat.mod_lt _ M_pos
  rw [bits_or_u64_nat _ _ h1 (by omega)]
  have h2 : 2 * x % M = 2 ^ 1 * (x % 9223372036854775808) := by unfold M; omega
  rw [h2, ← Nat.two_pow_add_eq_or_of_lt (by omega)]
  unfold addLo M
  omega
theorem dbl_hi {x c : Nat} (hx : x < M) (hc : c ≤ 1) : x / 9223372036854775808 = addHi x x c := by
  unfold addHi
  unfold M at hx ⊢
  omega

set_option maxRecDepth 100000 in
set_option maxHeartbeats 4000000 in
theorem refDouble_any (v : Value) (xs : List Nat) (b : Int) (w : World) (hL : Lim w.heap.size w v xs) (hlx : xs.length ≤ 1099511627776) (hb0 : -9223372036854775808 ≤ b) (hb1 : b ≤ 9223372036854775807) :
    Calls Tryz.prog 81 #[v, .int .i64 b] w (Gives (2 * val xs + (b % 2).toNat) w) := by
  have hx := hL.ok
  have hc0 : (b % 2).toNat ≤ 1 := by omega
  obtain ⟨A, ca, rfl, hca, hn, _, hr⟩ := id hL
  go_enter Tryz.func81, Tryz.ntmps81
  go_wp2
  rw [low_bit_i64]
  generalize hbc : (b % 2).toNat = c0 at *
  go_loopw [5, 6, 7] (fun o c i wr => ∃ (k : Nat) (L : List Nat) (cc : Nat), k ≤ xs.length ∧ i = .int .i64 k ∧ c = .int .u64 (cc : Int) ∧ addF c0 (upto (pairAt xs xs hx hx) k) = (L, cc) ∧
      wr.ownsRow w.heap.size 74 1 o L.length (Us L) ∧ Below w.heap.size w wr)
    (fun _ _ i _ => xs.length - (intOf i).toNat)
  case atStart => exact ⟨0, [], c0, Nat.zero_le _, rfl, rfl, rfl, World.ownsRow_nil _ _ _ _, Below.refl _ _⟩
  case round =>
    obtain ⟨k, L, c, hk, rfl, rfl, hP, own, hB⟩ := hrel
    obtain ⟨i1, i2, i3, i4⟩ := addF_inv hc0 (upto (pairAt xs xs hx hx) k)
    rw [upto_length, hP] at i2
    rw [hP] at i1 i3
    dsimp only at i1 i2 i3
    clear i4
    by_cases hlt : k < xs.length
    · have hsn := addF_upto c0 xs xs hx hx k
      rw [hP] at hsn
      have HS := Lib.hid hsn
      clear hsn hP
      have hll : L.length ≤ k := by omega
      clear i2
      obtain ⟨bb, off, rfl, hbb, hcell⟩ := hr (by omega)
      have hcw := hcell k hlt
      have hck := (hB.cell (p := ⟨bb, off + k, none⟩) hbb).trans hcw
      clear hcell hr
      have hlx' := ok_get hx k
      have hd : decide (k < xs.length) = true := by simpa using hlt
      have hi : (k : Int) < (xs.length : Int) := by omega
      have hlo : bits BinOp.or IntKind.u64 (IntKind.u64.wrap (((lat xs k : Nat) : Int) * 2)) (c : Int) = ((addLo (lat xs k) (lat xs k) c : Nat) : Int) := by
        rw [← dbl_lo hlx' i1]
        congr 1
        rw [IntKind.wrap_u64]
        unfold M
        omega
      have hll2 := addLo_lt (lat xs k) (lat xs k) c
      go_wp2_with (at_builtin; refine append_lim _ (by rfl) (.tmp 17) (.tmp 25) rfl w.heap.size u5 L.length (Us L) rfl (own.alloc _) _ (some ⟨wr.heap.size, 0, none⟩) 1 1 [addLo (lat xs k) (lat xs k) c] rfl (lim_lit1 wr _ hll2) (by omega) (by have := hB.size; simp; omega) ?_; intro v1 w1 own1 grow1; have b1 : Below w.heap.size w w1 := (hB.alloc hB.size _).grown grow1 (by have := hB.size; simp; omega) (fun k e => (own.lt k e).1); have hck1 := (b1.cell (p := ⟨bb, off + k, none⟩) hbb).trans hcw)
      go_roundw
      case rel => exact ⟨k + 1, _, _, by omega, by go_num, congrArg (Value.int .u64) (by rw [← dbl_hi hlx' i1]; omega), HS.out, by rw [Us_append, List.length_append]; exact own1, b1⟩
      case measure => simp [intOf]; omega
    · obtain rfl : k = xs.length := by omega
      have hll : L.length ≤ xs.length := by omega
      have ht := addF_total hc0 (upto (pairAt xs xs hx hx) xs.length)
      rw [av_upto xs xs hx hx _ (by omega), bv_upto xs xs hx hx _ (by omega), hP] at ht
      have hc1 : c < M := Nat.lt_of_le_of_lt i1 (by decide)
      have hok := ok_append i3 (ok_one hc1)
      have HT := Lib.hid (ht.trans (limbs_val hok).symm)
      clear ht hP i1 hr
      have hd : decide (xs.length < xs.length) = false := by simp
      go_wp2_with (at_builtin; refine append_lim _ (by rfl) (.tmp 32) (.tmp 34) rfl w.heap.size u5 L.length (Us L) rfl (own.alloc _) _ (some ⟨wr.heap.size, 0, none⟩) 1 1 [c] rfl (lim_lit1 wr c hc1) (by omega) (by have := hB.size; simp; omega) ?_; intro v1 w1 own1 grow1)
      have b1 : Below w.heap.size w w1 := (hB.alloc hB.size _).grown grow1 (by have := hB.size; simp; omega) (fun k e => (own.lt k e).1)
      have own2 : w1.ownsRow w.heap.size 74 1 v1 (L.length + 1) (Us (L ++ [c])) := by rw [Us_append]; exact own1
      have Lv := Lim.of_own own2 hok (Nat.le_refl _)
      clear own1 grow1
      refine (refTrim_any _ (L ++ [c]) _ Lv (by simp; omega)).mono ?_
      rintro e W2 ⟨r, rfl, hR, hb⟩
      go_wp2
      go_ret
      exact ⟨r, rfl, by rw [Nat.two_mul, HT.out]; exact hR, b1.trans (hb.mono b1.size)⟩

end Go.Proofs.YtjnefacdindamaaGreatDoor
