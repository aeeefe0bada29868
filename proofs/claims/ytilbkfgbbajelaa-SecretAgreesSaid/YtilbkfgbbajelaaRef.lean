/- The document's own answers for layer 1 (package lodgeref01), by the numbers that the limbs are: Trim, Compare, Add, Sub, Bits, Bit, Double. Conditions: the slices read as limbs; lengths below 2^40. -/
import Derived.Test.YtilbkfgbbajelaaApp
import Derived.Test.YtilbkfgbbajelaaLenA
namespace Go.Proofs.Ytilbkfgbbajelaa
open Go.RowKit Go.Shelf Num
set_option linter.unusedVariables false

theorem cmpF_upto (xs ys : List Nat) (hx : Ok xs) (hy : Ok ys) (j : Nat) : cmpF (upto (pairAt xs ys hx hy) (j + 1)) = if cmpN (lat xs j) (lat ys j) = 0 then cmpF (upto (pairAt xs ys hx hy) j) else cmpN (lat xs j) (lat ys j) := by
  rw [upto_succ, cmpF_snoc]; rfl
theorem addF_upto (c : Nat) (xs ys : List Nat) (hx : Ok xs) (hy : Ok ys) (k : Nat) : addF c (upto (pairAt xs ys hx hy) (k + 1)) = ((addF c (upto (pairAt xs ys hx hy) k)).1 ++ [addLo (lat xs k) (lat ys k) (addF c (upto (pairAt xs ys hx hy) k)).2], addHi (lat xs k) (lat ys k) (addF c (upto (pairAt xs ys hx hy) k)).2) := by
  rw [upto_succ, addF_snoc]; rfl
theorem subF_upto (xs ys : List Nat) (hx : Ok xs) (hy : Ok ys) (k : Nat) : subF (upto (pairAt xs ys hx hy) (k + 1)) = ((subF (upto (pairAt xs ys hx hy) k)).1 ++ [subLo (lat xs k) (lat ys k) (subF (upto (pairAt xs ys hx hy) k)).2], subHi (lat xs k) (lat ys k) (subF (upto (pairAt xs ys hx hy) k)).2) := by
  rw [upto_succ, subF_snoc]; rfl
theorem one_new (w : World) (x : Nat) (hx : x < M) : Lim (w.alloc (.cells #[.int .u64 (x : Int)] 32)).heap.size (w.alloc (.cells #[.int .u64 (x : Int)] 32)) (.slice (some ⟨w.heap.size, 0, none⟩) 1 1) [x] := lim_lit1 w x hx

set_option maxHeartbeats 1000000 in
theorem refTrim_any (v : Value) (xs : List Nat) (w : World) (hL : Lim w.heap.size w v xs) (hlen : xs.length ≤ 1099511627777) :
    Calls Try.prog 42 #[v] w (Gives (val xs) w) := by
  have ho := hL.ok
  have HT := Lib.hid (limbs_val ho)
  have ow0 : (w.alloc (.cells #[] 32)).ownsRow w.heap.size 32 1 (.slice (some ⟨w.heap.size, 0, none⟩) 0 0) 0 [] := World.ownsRow_lit w #[] 0 (Nat.le_refl _) (by unfold maxLen; omega) (by simp)
  obtain ⟨A, cap, rfl, hc, hn, _, hr⟩ := id hL
  cases A with
  | none =>
    have hc0 : cap = 0 := hn rfl
    subst hc0
    obtain rfl : xs = [] := List.eq_nil_of_length_eq_zero (by omega)
    clear hr hn
    have hk0 : hgt [] = 0 := rfl
    have HK := Lib.hid hk0
    clear hk0
    go_enter Try.func42, Try.ntmps42
    go_wp2
    go_loop [3] (fun t => t = .int .i64 0) (fun t => 0)
    case atStart => rfl
    case round =>
      obtain rfl := hrel
      have hLk := (hL.take (0) (by omega)).alloc (.cells #[] 32)
      have hkc : 0 ≤ 0 := by omega
      have hkI : ((0 : Nat) : Int) ≤ ((0 : Nat) : Int) := by omega
      have hkn : decide (((0 : Nat) : Int) < 0) = false := by simp; try omega
      go_wp2_with (at_builtin; refine append_lim _ (by rfl) (.tmp 18) (.tmp 21) rfl w.heap.size (.slice (some ⟨w.heap.size, 0, none⟩) 0 0) 0 [] rfl ow0 _ (none) (0) (0) (([] : List Nat).take 0) rfl hLk (by omega) (by simp) ?_; intro v' w1 own1 grow1)
      go_ret
      have own2 : w1.ownsRow w.heap.size 32 1 v' (0 + (([] : List Nat).take 0).length) (Us (([] : List Nat).take 0)) := by simpa using own1
      exact ⟨v', rfl, by rw [HT.out, ← trim_take, HK.out]; exact Lim.of_own own2 (ok_take ho _) (Nat.le_refl _), ((Below.refl _ _).alloc (Nat.le_refl _) _).grown grow1 (by simp) (fun k e => by simp [Value.ownBlock] at e; omega)⟩
  | some ad =>
    go_enter Try.func42, Try.ntmps42
    go_wp2
    go_loop [3] (fun t => ∃ k : Nat, k ≤ xs.length ∧ t = .int .i64 k ∧ hgt (xs.take k) = hgt xs) (fun t => (intOf t).toNat)
    case atStart => exact ⟨xs.length, Nat.le_refl _, rfl, by rw [List.take_length]⟩
    case round =>
      obtain ⟨k, hk, rfl, hh⟩ := hrel
      have HH := Lib.hid hh
      clear hh
      rcases Nat.eq_zero_or_pos k with rfl | hp
      · have HK := Lib.hid (hgt_end_zero xs HH.out)
        have hLk := (hL.take (0) (by omega)).alloc (.cells #[] 32)
        have hkc : 0 ≤ cap := by omega
        have hkI : ((0 : Nat) : Int) ≤ ((cap : Nat) : Int) := by omega
        have hkn : decide (((0 : Nat) : Int) < 0) = false := by simp; try omega
        go_wp2_with (at_builtin; refine append_lim _ (by rfl) (.tmp 18) (.tmp 21) rfl w.heap.size (.slice (some ⟨w.heap.size, 0, none⟩) 0 0) 0 [] rfl ow0 _ (some ad) (0) (cap) (xs.take (0)) rfl hLk (by omega) (by simp) ?_; intro v' w1 own1 grow1)
        go_ret
        have own2 : w1.ownsRow w.heap.size 32 1 v' (0 + (xs.take (0)).length) (Us (xs.take (0))) := by simpa using own1
        exact ⟨v', rfl, by rw [HT.out, ← trim_take, HK.out]; exact Lim.of_own own2 (ok_take ho _) (Nat.le_refl _), ((Below.refl _ _).alloc (Nat.le_refl _) _).grown grow1 (by simp) (fun k e => by simp [Value.ownBlock] at e; omega)⟩
      · obtain ⟨j, rfl⟩ : ∃ j, k = j + 1 := ⟨k - 1, by omega⟩
        obtain ⟨b, off, hA, hb, hcell⟩ := hr (by omega)
        injection hA with hA
        subst hA
        have hck := hcell j (by omega)
        clear hcell hr
        by_cases hz : lat xs j = 0
        · have H1 := Lib.hid ((hgt_step xs j (by omega) hz).symm.trans HH.out)
          have hcz : w.cell? ⟨b, off + j, none⟩ = some (.int .u64 0) := by rw [hck, hz]; rfl
          clear hck hz HH
          go_wp2
          go_round
          case rel => exact ⟨j, by omega, rfl, H1.out⟩
          case measure => simp [intOf]
        · have HK := Lib.hid (hgt_end xs j (by omega) HH.out hz)
          have hne : (((lat xs j : Nat) : Int) == 0) = false := by simpa using hz
          clear HH hz
          have hLk := (hL.take (j + 1) (by omega)).alloc (.cells #[] 32)
          have hkc : j + 1 ≤ cap := by omega
          have hkI : ((j + 1 : Nat) : Int) ≤ ((cap : Nat) : Int) := by omega
          have hkn : decide (((j + 1 : Nat) : Int) < 0) = false := by simp; try omega
          go_wp2_with (at_builtin; refine append_lim _ (by rfl) (.tmp 18) (.tmp 21) rfl w.heap.size (.slice (some ⟨w.heap.size, 0, none⟩) 0 0) 0 [] rfl ow0 _ (some ⟨b, off, none⟩) (j + 1) (cap) (xs.take (j + 1)) rfl hLk (by omega) (by simp) ?_; intro v' w1 own1 grow1)
          go_ret
          have own2 : w1.ownsRow w.heap.size 32 1 v' (0 + (xs.take (j + 1)).length) (Us (xs.take (j + 1))) := by simpa using own1
          exact ⟨v', rfl, by rw [HT.out, ← trim_take, HK.out]; exact Lim.of_own own2 (ok_take ho _) (Nat.le_refl _), ((Below.refl _ _).alloc (Nat.le_refl _) _).grown grow1 (by simp) (fun k e => by simp [Value.ownBlock] at e; omega)⟩

set_option maxHeartbeats 2000000 in
theorem refCompare_any (v u : Value) (xs ys : List Nat) (w : World) (hLa : Lim w.heap.size w v xs) (hLb : Lim w.heap.size w u ys) (hlx : xs.length ≤ 1099511627776) (hly : ys.length ≤ 1099511627776) :
    Calls Try.prog 21 #[v, u] w fun e W' => e = .returned (.int .i64 (cmpN (val xs) (val ys))) ∧ w = W' := by
  have hx := hLa.ok
  have hy := hLb.ok
  obtain ⟨A, ca, rfl, _⟩ := id hLa
  obtain ⟨B, cb, rfl, _⟩ := id hLb
  go_enter Try.func21, Try.ntmps21
  go_wp2
  go_loop [5] (fun i => ∃ k : Nat, k ≤ max xs.length ys.length ∧ i = .int .i64 ((k : Int) - 1) ∧ cmpF (upto (pairAt xs ys hx hy) k) = cmpN (val xs) (val ys)) (fun i => (intOf i + 1).toNat)
  case atStart =>
    refine ⟨max xs.length ys.length, Nat.le_refl _, congrArg (Value.int .i64) (by omega), ?_⟩
    rw [cmpF_total, av_upto xs ys hx hy _ (by omega), bv_upto xs ys hx hy _ (by omega)]
  case round =>
    obtain ⟨k, hk, rfl, hc⟩ := hrel
    have HC := Lib.hid hc
    clear hc
    rcases Nat.eq_zero_or_pos k with rfl | hp
    · go_wp2
      go_ret
      exact ⟨ret_int (by rw [← HC.out]; rfl), rfl⟩
    · obtain ⟨j, rfl⟩ : ∃ j, k = j + 1 := ⟨k - 1, by omega⟩
      have hs := HC.out
      rw [cmpF_upto] at hs
      have hd1 : decide ((0 : Int) ≤ ((j + 1 : Nat) : Int) - 1) = true := decide_eq_true (by omega)
      have hd2 : decide ((1 : Int) ≤ ((j + 1 : Nat) : Int)) = true := decide_eq_true (by omega)
      by_cases he : lat xs j = lat ys j
      · rw [if_pos (show cmpN (lat xs j) (lat ys j) = 0 by rw [he, cmpN_eq])] at hs
        have HS := Lib.hid hs
        have hne : (((lat xs j : Nat) : Int) != ((lat ys j : Nat) : Int)) = false := by rw [he]; simp
        clear hs he
        go_wp2_with fail
        refine (limb_any _ _ xs j _ hLa).mono ?_
        rintro e w' ⟨rfl, rfl⟩
        go_wp2_with fail
        refine (limb_any _ _ ys j _ hLb).mono ?_
        rintro e w' ⟨rfl, rfl⟩
        go_wp2
        go_round
        case rel => exact ⟨j, by omega, by go_num, HS.out⟩
        case measure => simp [intOf]
      · have hcn : cmpN (lat xs j) (lat ys j) ≠ 0 := fun h => he (cmpN_zero h)
        rw [if_neg hcn] at hs
        have HS := Lib.hid hs
        have hne : (((lat xs j : Nat) : Int) != ((lat ys j : Nat) : Int)) = true := by simp; omega
        clear hs hcn
        rcases Nat.lt_or_gt_of_ne he with hl | hl
        · have hd3 : decide (lat xs j < lat ys j) = true := by simpa using hl
          have H1 := Lib.hid (cmpN_lt hl)
          clear he
          go_wp2_with fail
          refine (limb_any _ _ xs j _ hLa).mono ?_
          rintro e w' ⟨rfl, rfl⟩
          go_wp2_with fail
          refine (limb_any _ _ ys j _ hLb).mono ?_
          rintro e w' ⟨rfl, rfl⟩
          go_wp2_with fail
          refine (limb_any _ _ xs j _ hLa).mono ?_
          rintro e w' ⟨rfl, rfl⟩
          go_wp2_with fail
          refine (limb_any _ _ ys j _ hLb).mono ?_
          rintro e w' ⟨rfl, rfl⟩
          go_wp2
          go_ret
          exact ⟨ret_int (by rw [← HS.out, H1.out]), rfl⟩
        · have hd3 : decide (lat xs j < lat ys j) = false := by simp; omega
          have H1 := Lib.hid (cmpN_gt hl)
          clear he
          go_wp2_with fail
          refine (limb_any _ _ xs j _ hLa).mono ?_
          rintro e w' ⟨rfl, rfl⟩
          go_wp2_with fail
          refine (limb_any _ _ ys j _ hLb).mono ?_
          rintro e w' ⟨rfl, rfl⟩
          go_wp2_with fail
          refine (limb_any _ _ xs j _ hLa).mono ?_
          rintro e w' ⟨rfl, rfl⟩
          go_wp2_with fail
          refine (limb_any _ _ ys j _ hLb).mono ?_
          rintro e w' ⟨rfl, rfl⟩
          go_wp2
          go_ret
          exact ⟨ret_int (by rw [← HS.out, H1.out]), rfl⟩

set_option maxRecDepth 100000 in
set_option maxHeartbeats 4000000 in
theorem refAdd_any (v u : Value) (xs ys : List Nat) (w : World) (hLa : Lim w.heap.size w v xs) (hLb : Lim w.heap.size w u ys) (hlx : xs.length ≤ 1099511627776) (hly : ys.length ≤ 1099511627776) :
    Calls Try.prog 23 #[v, u] w (Gives (val xs + val ys) w) := by
  have hx := hLa.ok
  have hy := hLb.ok
  obtain ⟨A, ca, rfl, _⟩ := id hLa
  obtain ⟨B, cb, rfl, _⟩ := id hLb
  go_enter Try.func23, Try.ntmps23
  go_wp2
  go_loopw [5, 6, 7] (fun o c i wr => ∃ (k : Nat) (L : List Nat) (cc : Nat), k ≤ max xs.length ys.length ∧ i = .int .i64 k ∧ c = .int .u64 (cc : Int) ∧ addF 0 (upto (pairAt xs ys hx hy) k) = (L, cc) ∧
      wr.ownsRow w.heap.size 32 1 o L.length (Us L) ∧ Below w.heap.size w wr)
    (fun _ _ i _ => max xs.length ys.length - (intOf i).toNat)
  case atStart => exact ⟨0, [], 0, Nat.zero_le _, rfl, rfl, rfl, World.ownsRow_nil _ _ _ _, Below.refl _ _⟩
  case round =>
    obtain ⟨k, L, c, hk, rfl, rfl, hP, own, hB⟩ := hrel
    obtain ⟨i1, i2, i3, i4⟩ := addF_inv (c := 0) (by omega) (upto (pairAt xs ys hx hy) k)
    rw [upto_length, hP] at i2
    rw [hP] at i1 i3
    dsimp only at i1 i2 i3
    clear i4
    by_cases hlt : k < max xs.length ys.length
    · have hsn := addF_upto 0 xs ys hx hy k
      rw [hP] at hsn
      have HS := Lib.hid hsn
      clear hsn hP
      have hll : L.length ≤ k := by omega
      clear i2
      have hcall := add64 (lat xs k) (lat ys k) c i1
      have La := hLa.next (hB)
      have Lb := hLb.next (hB)
      have hd : decide (k < max xs.length ys.length) = true := by simpa using hlt
      have hd' : decide ((k : Int) < max (xs.length : Int) (ys.length : Int)) = true := decide_eq_true (by omega)
      have hlo : addLo (lat xs k) (lat ys k) c < M := addLo_lt _ _ _
      go_wp2_with fail
      refine (limb_any _ _ xs k _ La).mono ?_
      rintro e w' ⟨rfl, rfl⟩
      go_wp2_with fail
      refine (limb_any _ _ ys k _ Lb).mono ?_
      rintro e w' ⟨rfl, rfl⟩
      go_wp2_with (at_builtin; refine append_lim _ (by rfl) (.tmp 30) (.tmp 32) rfl w.heap.size u5 L.length (Us L) rfl (own.alloc _) _ (some ⟨wr.heap.size, 0, none⟩) 1 1 [addLo (lat xs k) (lat ys k) c] rfl (lim_lit1 wr _ hlo) (by omega) (by have := hB.size; simp; omega) ?_; intro v1 w1 own1 grow1)
      have b1 : Below w.heap.size w w1 := (hB.alloc hB.size _).grown grow1 (by have := hB.size; simp; omega) (fun k e => (own.lt k e).1)
      go_roundw
      case rel => exact ⟨k + 1, _, _, by omega, by go_num, rfl, HS.out, by rw [Us_append, List.length_append]; exact own1, b1⟩
      case measure => simp [intOf]; omega
    · obtain rfl : k = max xs.length ys.length := by omega
      have hll : L.length ≤ max xs.length ys.length := by omega
      have ht := addF_total (c := 0) (by omega) (upto (pairAt xs ys hx hy) (max xs.length ys.length))
      rw [av_upto xs ys hx hy _ (by omega), bv_upto xs ys hx hy _ (by omega), hP] at ht
      have hc1 : c < M := Nat.lt_of_le_of_lt i1 (by decide)
      have hok := ok_append i3 (ok_one hc1)
      have HT := Lib.hid (ht.trans (limbs_val hok).symm)
      clear ht hP i1
      have hd : decide (max xs.length ys.length < max xs.length ys.length) = false := by simp
      have hd' : decide (((max xs.length ys.length : Nat) : Int) < max (xs.length : Int) (ys.length : Int)) = false := decide_eq_false (by omega)
      go_wp2_with (at_builtin; refine append_lim _ (by rfl) (.tmp 35) (.tmp 37) rfl w.heap.size u5 L.length (Us L) rfl (own.alloc _) _ (some ⟨wr.heap.size, 0, none⟩) 1 1 [c] rfl (lim_lit1 wr c hc1) (by omega) (by have := hB.size; simp; omega) ?_; intro v1 w1 own1 grow1)
      have b1 : Below w.heap.size w w1 := (hB.alloc hB.size _).grown grow1 (by have := hB.size; simp; omega) (fun k e => (own.lt k e).1)
      have own2 : w1.ownsRow w.heap.size 32 1 v1 (L.length + 1) (Us (L ++ [c])) := by rw [Us_append]; exact own1
      have Lv := Lim.of_own own2 hok (Nat.le_refl _)
      clear own1 grow1
      refine (refTrim_any _ (L ++ [c]) _ Lv (by simp; omega)).mono ?_
      rintro e W2 ⟨r, rfl, hR, hb⟩
      go_wp2
      go_ret
      exact ⟨r, rfl, by rw [show val xs + val ys = val xs + val ys + 0 from rfl, HT.out]; exact hR, b1.trans (hb.mono b1.size)⟩

set_option maxRecDepth 100000 in
set_option maxHeartbeats 4000000 in
theorem refSub_any (v u : Value) (xs ys : List Nat) (w : World) (hLa : Lim w.heap.size w v xs) (hLb : Lim w.heap.size w u ys) (hlx : xs.length ≤ 1099511627776) (hly : ys.length ≤ 1099511627776) (hle : val ys ≤ val xs) :
    Calls Try.prog 18 #[v, u] w fun e W' => ∃ r, e = .returned (.tuple #[r, .bool true]) ∧ Lim W'.heap.size W' r (limbs (val xs - val ys)) ∧ Below w.heap.size w W' := by
  have hx := hLa.ok
  have hy := hLb.ok
  obtain ⟨A, ca, rfl, _⟩ := id hLa
  obtain ⟨B, cb, rfl, _⟩ := id hLb
  have hcm : decide (cmpN (val xs) (val ys) < 0) = false := by
    unfold cmpN
    rw [if_neg (by omega)]
    split <;> simp
  have HLE := Lib.hid hle
  clear hle
  go_enter Try.func18, Try.ntmps18
  go_wp2_with fail
  refine (refCompare_any _ _ xs ys _ hLa hLb hlx hly).mono ?_
  rintro e w' ⟨rfl, rfl⟩
  go_wp2
  go_loopw [6, 7, 8] (fun o c i wr => ∃ (k : Nat) (L : List Nat) (cc : Nat), k ≤ max xs.length ys.length ∧ i = .int .i64 k ∧ c = .int .u64 (cc : Int) ∧ subF (upto (pairAt xs ys hx hy) k) = (L, cc) ∧
      wr.ownsRow w.heap.size 32 1 o L.length (Us L) ∧ Below w.heap.size w wr)
    (fun _ _ i _ => max xs.length ys.length - (intOf i).toNat)
  case atStart => exact ⟨0, [], 0, Nat.zero_le _, rfl, rfl, rfl, World.ownsRow_nil _ _ _ _, Below.refl _ _⟩
  case round =>
    obtain ⟨k, L, c, hk, rfl, rfl, hP, own, hB⟩ := hrel
    obtain ⟨i1, i2, i3, i4⟩ := subF_inv (upto (pairAt xs ys hx hy) k)
    rw [upto_length, hP] at i2
    rw [hP] at i1 i3
    dsimp only at i1 i2 i3
    clear i4
    by_cases hlt : k < max xs.length ys.length
    · have hsn := subF_upto xs ys hx hy k
      rw [hP] at hsn
      have HS := Lib.hid hsn
      clear hsn hP
      have hll : L.length ≤ k := by omega
      clear i2
      have hcall := sub64 (lat xs k) (lat ys k) c i1
      have La := hLa.next (hB)
      have Lb := hLb.next (hB)
      have hd : decide (k < max xs.length ys.length) = true := by simpa using hlt
      have hd' : decide ((k : Int) < max (xs.length : Int) (ys.length : Int)) = true := decide_eq_true (by omega)
      have hlo : subLo (lat xs k) (lat ys k) c < M := subLo_lt _ _ _
      go_wp2_with fail
      refine (limb_any _ _ xs k _ La).mono ?_
      rintro e w' ⟨rfl, rfl⟩
      go_wp2_with fail
      refine (limb_any _ _ ys k _ Lb).mono ?_
      rintro e w' ⟨rfl, rfl⟩
      go_wp2_with (at_builtin; refine append_lim _ (by rfl) (.tmp 35) (.tmp 37) rfl w.heap.size u6 L.length (Us L) rfl (own.alloc _) _ (some ⟨wr.heap.size, 0, none⟩) 1 1 [subLo (lat xs k) (lat ys k) c] rfl (lim_lit1 wr _ hlo) (by omega) (by have := hB.size; simp; omega) ?_; intro v1 w1 own1 grow1)
      have b1 : Below w.heap.size w w1 := (hB.alloc hB.size _).grown grow1 (by have := hB.size; simp; omega) (fun k e => (own.lt k e).1)
      go_roundw
      case rel => exact ⟨k + 1, _, _, by omega, by go_num, rfl, HS.out, by rw [Us_append, List.length_append]; exact own1, b1⟩
      case measure => simp [intOf]; omega
    · obtain rfl : k = max xs.length ys.length := by omega
      have hll : L.length ≤ max xs.length ys.length := by omega
      have ht := subF_total (upto (pairAt xs ys hx hy) (max xs.length ys.length))
      rw [av_upto xs ys hx hy _ (by omega), bv_upto xs ys hx hy _ (by omega), hP] at ht
      have HT := Lib.hid ((ht HLE.out).trans (limbs_val i3).symm)
      clear ht hP i1
      have Lv := Lim.of_own own i3 (Nat.le_refl _)
      have hd : decide (max xs.length ys.length < max xs.length ys.length) = false := by simp
      have hd' : decide (((max xs.length ys.length : Nat) : Int) < max (xs.length : Int) (ys.length : Int)) = false := decide_eq_false (by omega)
      go_wp2_with fail
      refine (refTrim_any _ L _ Lv (by omega)).mono ?_
      rintro e W2 ⟨r, rfl, hR, hb⟩
      go_wp2
      go_ret2
      exact ⟨r, rfl, by rw [HT.out]; exact hR, hB.trans (hb.mono hB.size)⟩

set_option maxHeartbeats 1000000 in
theorem refSub_no (v u : Value) (xs ys : List Nat) (w : World) (hLa : Lim w.heap.size w v xs) (hLb : Lim w.heap.size w u ys) (hlx : xs.length ≤ 1099511627776) (hly : ys.length ≤ 1099511627776) (hle : val xs < val ys) :
    Calls Try.prog 18 #[v, u] w fun e W' => e = .returned (.tuple #[.slice none 0 0, .bool false]) ∧ w = W' := by
  obtain ⟨A, ca, rfl, _⟩ := id hLa
  obtain ⟨B, cb, rfl, _⟩ := id hLb
  have hcm : decide (cmpN (val xs) (val ys) < 0) = true := by rw [cmpN_lt hle]; rfl
  clear hle
  go_enter Try.func18, Try.ntmps18
  go_wp2_with fail
  refine (refCompare_any _ _ xs ys _ hLa hLb hlx hly).mono ?_
  rintro e w' ⟨rfl, rfl⟩
  go_wp2
  go_ret2
  exact ⟨rfl, rfl⟩

end Go.Proofs.Ytilbkfgbbajelaa
