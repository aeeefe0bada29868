/- The document's Trim and Sub answer in memory that is new. Conditions: the slices read as limbs; lengths below 2^40. -/
import Derived.Test.YtilbkfgbbajelaaRef
namespace Go.Proofs.Ytilbkfgbbajelaa
open Go.RowKit Go.Shelf Num
set_option linter.unusedVariables false

/-- The slice lies in no block below n. -/
def Fresh (n : Nat) (v : Value) : Prop := ∀ b, v.ownBlock = some b → n ≤ b

set_option maxHeartbeats 1000000 in
theorem refTrim_fresh (v : Value) (xs : List Nat) (w : World) (hL : Lim w.heap.size w v xs) (hlen : xs.length ≤ 1099511627777) :
    Calls Try.prog 42 #[v] w fun e W' => ∃ v', e = .returned v' ∧ Lim W'.heap.size W' v' (limbs (val xs)) ∧ Below w.heap.size w W' ∧ Fresh w.heap.size v' := by
  have ho := hL.ok
  have HT := Lib.hid (limbs_val ho)
  have ow0 : (w.alloc (.cells #[] 32)).ownsRow w.heap.size 32 1 (.slice (some ⟨w.heap.size, 0, none⟩) 0 0) 0 [] := World.ownsRow_lit w #[] 0 (Nat.le_refl _) (by unfold maxLen; omega) (by simp)
  obtain ⟨A, cap, rfl, hc, hn, _, hr⟩ := id hL
  cases A with
  | none =>
    have hc0 : cap = 0 := hn rfl
    subst hc0
    obtain rfl : xs = [] := List.eq_nil_of_length_eq_zero (by omega)
    clear hr hn
    have hk0 : hgt [] = 0 := rfl
    have HK := Lib.hid hk0
    clear hk0
    go_enter Try.func42, Try.ntmps42
    go_wp2
    go_loop [3] (fun t => t = .int .i64 0) (fun t => 0)
    case atStart => rfl
    case round =>
      obtain rfl := hrel
      have hLk := (hL.take (0) (by omega)).alloc (.cells #[] 32)
      have hkc : 0 ≤ 0 := by omega
      have hkI : ((0 : Nat) : Int) ≤ ((0 : Nat) : Int) := by omega
      have hkn : decide (((0 : Nat) : Int) < 0) = false := by simp; try omega
      go_wp2_with (at_builtin; refine append_lim _ (by rfl) (.tmp 18) (.tmp 21) rfl w.heap.size (.slice (some ⟨w.heap.size, 0, none⟩) 0 0) 0 [] rfl ow0 _ (none) (0) (0) (([] : List Nat).take 0) rfl hLk (by omega) (by simp) ?_; intro v' w1 own1 grow1)
      go_ret
      have own2 : w1.ownsRow w.heap.size 32 1 v' (0 + (([] : List Nat).take 0).length) (Us (([] : List Nat).take 0)) := by simpa using own1
      exact ⟨v', rfl, by rw [HT.out, ← trim_take, HK.out]; exact Lim.of_own own2 (ok_take ho _) (Nat.le_refl _), ((Below.refl _ _).alloc (Nat.le_refl _) _).grown grow1 (by simp) (fun k e => by simp [Value.ownBlock] at e; omega), fun b e => (own2.lt b e).1⟩
  | some ad =>
    go_enter Try.func42, Try.ntmps42
    go_wp2
    go_loop [3] (fun t => ∃ k : Nat, k ≤ xs.length ∧ t = .int .i64 k ∧ hgt (xs.take k) = hgt xs) (fun t => (intOf t).toNat)
    case atStart => exact ⟨xs.length, Nat.le_refl _, rfl, by rw [List.take_length]⟩
    case round =>
      obtain ⟨k, hk, rfl, hh⟩ := hrel
      have HH := Lib.hid hh
      clear hh
      rcases Nat.eq_zero_or_pos k with rfl | hp
      · have HK := Lib.hid (hgt_end_zero xs HH.out)
        have hLk := (hL.take (0) (by omega)).alloc (.cells #[] 32)
        have hkc : 0 ≤ cap := by omega
        have hkI : ((0 : Nat) : Int) ≤ ((cap : Nat) : Int) := by omega
        have hkn : decide (((0 : Nat) : Int) < 0) = false := by simp; try omega
        go_wp2_with (at_builtin; refine append_lim _ (by rfl) (.tmp 18) (.tmp 21) rfl w.heap.size (.slice (some ⟨w.heap.size, 0, none⟩) 0 0) 0 [] rfl ow0 _ (some ad) (0) (cap) (xs.take (0)) rfl hLk (by omega) (by simp) ?_; intro v' w1 own1 grow1)
        go_ret
        have own2 : w1.ownsRow w.heap.size 32 1 v' (0 + (xs.take (0)).length) (Us (xs.take (0))) := by simpa using own1
        exact ⟨v', rfl, by rw [HT.out, ← trim_take, HK.out]; exact Lim.of_own own2 (ok_take ho _) (Nat.le_refl _), ((Below.refl _ _).alloc (Nat.le_refl _) _).grown grow1 (by simp) (fun k e => by simp [Value.ownBlock] at e; omega), fun b e => (own2.lt b e).1⟩
      · obtain ⟨j, rfl⟩ : ∃ j, k = j + 1 := ⟨k - 1, by omega⟩
        obtain ⟨b, off, hA, hb, hcell⟩ := hr (by omega)
        injection hA with hA
        subst hA
        have hck := hcell j (by omega)
        clear hcell hr
        by_cases hz : lat xs j = 0
        · have H1 := Lib.hid ((hgt_step xs j (by omega) hz).symm.trans HH.out)
          have hcz : w.cell? ⟨b, off + j, none⟩ = some (.int .u64 0) := by rw [hck, hz]; rfl
          clear hck hz HH
          go_wp2
          go_round
          case rel => exact ⟨j, by omega, rfl, H1.out⟩
          case measure => simp [intOf]
        · have HK := Lib.hid (hgt_end xs j (by omega) HH.out hz)
          have hne : (((lat xs j : Nat) : Int) == 0) = false := by simpa using hz
          clear HH hz
          have hLk := (hL.take (j + 1) (by omega)).alloc (.cells #[] 32)
          have hkc : j + 1 ≤ cap := by omega
          have hkI : ((j + 1 : Nat) : Int) ≤ ((cap : Nat) : Int) := by omega
          have hkn : decide (((j + 1 : Nat) : Int) < 0) = false := by simp; try omega
          go_wp2_with (at_builtin; refine append_lim _ (by rfl) (.tmp 18) (.tmp 21) rfl w.heap.size (.slice (some ⟨w.heap.size, 0, none⟩) 0 0) 0 [] rfl ow0 _ (some ⟨b, off, none⟩) (j + 1) (cap) (xs.take (j + 1)) rfl hLk (by omega) (by simp) ?_; intro v' w1 own1 grow1)
          go_ret
          have own2 : w1.ownsRow w.heap.size 32 1 v' (0 + (xs.take (j + 1)).length) (Us (xs.take (j + 1))) := by simpa using own1
          exact ⟨v', rfl, by rw [HT.out, ← trim_take, HK.out]; exact Lim.of_own own2 (ok_take ho _) (Nat.le_refl _), ((Below.refl _ _).alloc (Nat.le_refl _) _).grown grow1 (by simp) (fun k e => by simp [Value.ownBlock] at e; omega), fun b e => (own2.lt b e).1⟩

set_option maxRecDepth 100000 in
set_option maxHeartbeats 4000000 in
theorem refSub_fresh (v u : Value) (xs ys : List Nat) (w : World) (hLa : Lim w.heap.size w v xs) (hLb : Lim w.heap.size w u ys) (hlx : xs.length ≤ 1099511627776) (hly : ys.length ≤ 1099511627776) (hle : val ys ≤ val xs) :
    Calls Try.prog 18 #[v, u] w fun e W' => ∃ r, e = .returned (.tuple #[r, .bool true]) ∧ Lim W'.heap.size W' r (limbs (val xs - val ys)) ∧ Below w.heap.size w W' ∧ Fresh w.heap.size r := by
  have hx := hLa.ok
  have hy := hLb.ok
  obtain ⟨A, ca, rfl, _⟩ := id hLa
  obtain ⟨B, cb, rfl, _⟩ := id hLb
  have hcm : decide (cmpN (val xs) (val ys) < 0) = false := by
    unfold cmpN
    rw [if_neg (by omega)]
    split <;> simp
  have HLE := Lib.hid hle
  clear hle
  go_enter Try.func18, Try.ntmps18
  go_wp2_with fail
  refine (refCompare_any _ _ xs ys _ hLa hLb hlx hly).mono ?_
  rintro e w' ⟨rfl, rfl⟩
  go_wp2
  go_loopw [6, 7, 8] (fun o c i wr => ∃ (k : Nat) (L : List Nat) (cc : Nat), k ≤ max xs.length ys.length ∧ i = .int .i64 k ∧ c = .int .u64 (cc : Int) ∧ subF (upto (pairAt xs ys hx hy) k) = (L, cc) ∧
      wr.ownsRow w.heap.size 32 1 o L.length (Us L) ∧ Below w.heap.size w wr)
    (fun _ _ i _ => max xs.length ys.length - (intOf i).toNat)
  case atStart => exact ⟨0, [], 0, Nat.zero_le _, rfl, rfl, rfl, World.ownsRow_nil _ _ _ _, Below.refl _ _⟩
  case round =>
    obtain ⟨k, L, c, hk, rfl, rfl, hP, own, hB⟩ := hrel
    obtain ⟨i1, i2, i3, i4⟩ := subF_inv (upto (pairAt xs ys hx hy) k)
    rw [upto_length, hP] at i2
    rw [hP] at i1 i3
    dsimp only at i1 i2 i3
    clear i4
    by_cases hlt : k < max xs.length ys.length
    · have hsn := subF_upto xs ys hx hy k
      rw [hP] at hsn
      have HS := Lib.hid hsn
      clear hsn hP
      have hll : L.length ≤ k := by omega
      clear i2
      have hcall := sub64 (lat xs k) (lat ys k) c i1
      have La := hLa.next (hB)
      have Lb := hLb.next (hB)
      have hd : decide (k < max xs.length ys.length) = true := by simpa using hlt
      have hd' : decide ((k : Int) < max (xs.length : Int) (ys.length : Int)) = true := decide_eq_true (by omega)
      have hlo : subLo (lat xs k) (lat ys k) c < M := subLo_lt _ _ _
      go_wp2_with fail
      refine (limb_any _ _ xs k _ La).mono ?_
      rintro e w' ⟨rfl, rfl⟩
      go_wp2_with fail
      refine (limb_any _ _ ys k _ Lb).mono ?_
      rintro e w' ⟨rfl, rfl⟩
      go_wp2_with (at_builtin; refine append_lim _ (by rfl) (.tmp 35) (.tmp 37) rfl w.heap.size u6 L.length (Us L) rfl (own.alloc _) _ (some ⟨wr.heap.size, 0, none⟩) 1 1 [subLo (lat xs k) (lat ys k) c] rfl (lim_lit1 wr _ hlo) (by omega) (by have := hB.size; simp; omega) ?_; intro v1 w1 own1 grow1)
      have b1 : Below w.heap.size w w1 := (hB.alloc hB.size _).grown grow1 (by have := hB.size; simp; omega) (fun k e => (own.lt k e).1)
      go_roundw
      case rel => exact ⟨k + 1, _, _, by omega, by go_num, rfl, HS.out, by rw [Us_append, List.length_append]; exact own1, b1⟩
      case measure => simp [intOf]; omega
    · obtain rfl : k = max xs.length ys.length := by omega
      have hll : L.length ≤ max xs.length ys.length := by omega
      have ht := subF_total (upto (pairAt xs ys hx hy) (max xs.length ys.length))
      rw [av_upto xs ys hx hy _ (by omega), bv_upto xs ys hx hy _ (by omega), hP] at ht
      have HT := Lib.hid ((ht HLE.out).trans (limbs_val i3).symm)
      clear ht hP i1
      have Lv := Lim.of_own own i3 (Nat.le_refl _)
      have hd : decide (max xs.length ys.length < max xs.length ys.length) = false := by simp
      have hd' : decide (((max xs.length ys.length : Nat) : Int) < max (xs.length : Int) (ys.length : Int)) = false := decide_eq_false (by omega)
      go_wp2_with fail
      refine (refTrim_fresh _ L _ Lv (by omega)).mono ?_
      rintro e W2 ⟨r, rfl, hR, hb, hfr⟩
      go_wp2
      go_ret2
      exact ⟨r, rfl, by rw [HT.out]; exact hR, hB.trans (hb.mono hB.size), fun b e => Nat.le_trans hB.size (hfr b e)⟩

end Go.Proofs.Ytilbkfgbbajelaa
