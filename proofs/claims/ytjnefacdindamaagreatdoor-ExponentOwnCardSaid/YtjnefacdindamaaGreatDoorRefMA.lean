/- Several texts in one: each part says what it proves, and under which conditions. -/
import Derived.Test.YtjnefacdindamaaGreatDoorMulA
import Derived.Test.YtjnefacdindamaaGreatDoorRefA
import Derived.Test.YtjnefacdindamaaGreatDoorNumA
import Derived.Test.YtjnefacdindamaaGreatDoorDivA
import Derived.Test.YtjnefacdindamaaGreatDoorLenA
import Derived.Test.YtjnefacdindamaaGreatDoorModQA

/- The document's product (lodgeref02.Mul) is the product. Conditions: both slices read as limbs; lengths below 2^38. -/
namespace Go.Proofs.YtjnefacdindamaaGreatDoor
open Go.RowKit Go.Shelf Num
set_option linter.unusedVariables false
set_option maxRecDepth 100000

theorem mul64_quiet (x y : Nat) (hx : x < M) (hy : y < M) (w : World) (n : Nat) :
    Calls Tryz.prog 104 #[.int .u64 (x : Int), .int .u64 (y : Int)] (w.drewN n) fun e w' => e = .returned (.tuple #[.int .u64 ((mulHi x y : Nat) : Int), .int .u64 ((mulLo x y : Nat) : Int)]) ∧ w' = w.drewN n :=
  (mul64_any x y hx hy _).mono fun e w' h => ⟨h.1, h.2.symm⟩

set_option maxRecDepth 100000 in
set_option maxHeartbeats 8000000 in
theorem refMul_any (v u : Value) (xs ys : List Nat) (w : World) (hLa : Lim w.heap.size w v xs) (hLb : Lim w.heap.size w u ys) (hlx : xs.length ≤ 274877906944) (hly : ys.length ≤ 274877906944) :
    Calls Tryz.prog 83 #[v, u] w (Gives (val xs * val ys) w) := by
  obtain ⟨i0, hi, hz0, hz1, hz2⟩ := info_parts infoU
  have hox := hLa.ok
  have hoy := hLb.ok
  obtain ⟨A, ca, rfl, hca, hna, _, hra⟩ := id hLa
  obtain ⟨B, cb, rfl, hcb, hnb, _, hrb⟩ := id hLb
  go_enter Tryz.func83, Tryz.ntmps83
  go_wp2_with (refine wpList_make_row _ rfl _ _ 69 rfl 74 i0 (.int .u64 0) Tryz.underlying69 hi hz0 hz1 rfl .i64 .i64 (xs.length + ys.length + 1) rfl rfl (by rw [hz2]; omega) (by omega) ?_)
  have hR0 := row_made w (xs.length + ys.length + 1)
  have hB0 : Below w.heap.size w (w.alloc (.cells (madeCells #[.int .u64 0] (xs.length + ys.length + 1)) 74)) := (Below.refl _ w).alloc (Nat.le_refl _) _
  generalize w.alloc (.cells (madeCells #[.int .u64 0] (xs.length + ys.length + 1)) 74) = w1 at hR0 hB0 ⊢
  go_loopw [6] (fun i wr => ∃ (k : Nat) (f : Nat → Nat), k ≤ xs.length ∧ i = .int .i64 k ∧ Row wr w.heap.size (xs.length + ys.length + 1) f ∧ Below w.heap.size w wr ∧
      (∀ j, k + ys.length ≤ j → f j = 0) ∧ sm f 0 (k + ys.length) = sm (lat xs) 0 k * val ys)
    (fun i _ => xs.length - (intOf i).toNat)
  case atStart => exact ⟨0, fun _ => 0, Nat.zero_le _, rfl, hR0, hB0, fun _ _ => rfl, by rw [sm_nought (fun _ _ => rfl), sm_zero, Nat.zero_mul]⟩
  case round =>
    obtain ⟨k, f, hk, rfl, hR, hB, hz, he⟩ := hrel
    have HE := Lib.hid he
    have HZ := Lib.hid hz
    clear he hz
    by_cases hlt : k < xs.length
    · obtain ⟨b, off, rfl, hbg, hcell⟩ := hra (by omega)
      have hck := hcell k hlt
      clear hcell hra
      have hd : decide (k < xs.length) = true := by simpa using hlt
      have hx := ok_get hox k
      go_wp2_with fail
      go_loopw [7, 8] (fun c i wr => ∃ (l cc : Nat) (F : Nat → Nat), l ≤ ys.length ∧ i = .int .i64 l ∧ c = .int .u64 (cc : Int) ∧ cc < M ∧ Row wr w.heap.size (xs.length + ys.length + 1) F ∧ Below w.heap.size w wr ∧
          (∀ j, (j < k ∨ k + l ≤ j) → F j = f j) ∧ sm F k l + M ^ l * cc = sm f k l + lat xs k * sm (lat ys) 0 l)
        (fun _ i _ => ys.length - (intOf i).toNat)
      case atStart => exact ⟨0, 0, f, Nat.zero_le _, rfl, rfl, M_pos, hR, hB, fun _ _ => rfl, by simp [sm]⟩
      case round =>
        obtain ⟨l, c, F, hl, rfl, rfl, hc, hRF, hBF, hF, hE⟩ := hrel
        have HF := Lib.hid hF
        have HEi := Lib.hid hE
        clear hF hE hR hB
        by_cases hl2 : l < ys.length
        · obtain ⟨b', off', rfl, hbg', hcell'⟩ := hrb (by omega)
          have hcky : wr.cell? ⟨b', off' + l, none⟩ = some (.int .u64 ((lat ys l : Nat) : Int)) := (hBF.cell (p := ⟨b', off' + l, none⟩) hbg').trans (hcell' l hl2)
          have hckx : wr.cell? ⟨b, off + k, none⟩ = some (.int .u64 ((lat xs k : Nat) : Int)) := (hBF.cell (p := ⟨b, off + k, none⟩) hbg).trans hck
          clear hcell' hrb hck
          have hcs := hRF.cell (j := k + l) (by omega)
          have hfz := hRF.frozen (k + l)
          have hs := hRF.lim (k + l)
          have hy := ok_get hoy l
          obtain ⟨s1, s2, s3⟩ := ref_step hx hy hs hc
          have HS := Lib.hid s3
          clear s3
          have hd2 : decide (l < ys.length) = true := by simpa using hl2
          have i1 : (k : Int) < (xs.length : Int) := by omega
          have i2 : (l : Int) < (ys.length : Int) := by omega
          have i3 : (k : Int) + (l : Int) < (xs.length : Int) + (ys.length : Int) + 1 := by omega
          have i4 : k + l < xs.length + ys.length + 1 := by omega
          have ha1 : ∀ w, (callFunc 85 #[.int .u64 ((F (k + l) : Nat) : Int), .int .u64 ((mulLo (lat xs k) (lat ys l) : Nat) : Int), .int .u64 0]).run Tryz.prog w = _ := fun w => add64 (F (k + l)) (mulLo (lat xs k) (lat ys l)) 0 (by omega) w
          have ha2 : ∀ w, (callFunc 85 #[.int .u64 ((addLo (F (k + l)) (mulLo (lat xs k) (lat ys l)) 0 : Nat) : Int), .int .u64 (c : Int), .int .u64 0]).run Tryz.prog w = _ := fun w => add64 (addLo (F (k + l)) (mulLo (lat xs k) (lat ys l)) 0) c 0 (by omega) w
          go_wp2_with fail
          go_quiet ((go_at_call 104; refine Calls.quiet_of_same (mul64_quiet _ _ hx hy _ _)))
          have hRq := hRF.drewN nq
          have hBq := below_drewNs hBF nq
          go_wp2_with fail
          go_roundw
          case rel =>
            refine ⟨l + 1, _, upd F (k + l) (addLo (addLo (F (k + l)) (mulLo (lat xs k) (lat ys l)) 0) c 0), by omega, by go_num, (by rw [wrap_add s1, wrap_add s2]), s2, hRq.set _ (addLo_lt _ _ _), hBq.setCell (p := ⟨w.heap.size, k + l, none⟩) (Nat.le_refl _) _, ?_, ?_⟩
            · intro j hj
              rw [upd_other _ _ (by omega)]
              exact HF.out j (by omega)
            · rw [sm_upd_last, sm_succ, sm_succ, Nat.pow_succ, ← HF.out (k + l) (by omega), Nat.zero_add]
              exact add_round HEi.out HS.out
          case measure => simp [intOf]; omega
        · obtain rfl : l = ys.length := by omega
          have hd2 : decide (ys.length < ys.length) = false := by simp
          have hFz : F (k + ys.length) = 0 := (HF.out _ (.inr (Nat.le_refl _))).trans (HZ.out _ (Nat.le_refl _))
          have HFZ := Lib.hid hFz
          clear hFz hck
          rw [← val_sm] at HEi
          go_wp2_with fail
          go_loopw [7, 14] (fun cv kv wr => ∃ (cc p : Nat) (F' : Nat → Nat), cv = .int .u64 (cc : Int) ∧ kv = .int .i64 (p : Int) ∧ Row wr w.heap.size (xs.length + ys.length + 1) F' ∧ Below w.heap.size w wr ∧
              ((cc = c ∧ p = k + ys.length ∧ F' = F) ∨ (cc = 0 ∧ F' = upd F (k + ys.length) c)))
            (fun cv _ _ => (intOf cv).toNat)
          case atStart => exact ⟨c, k + ys.length, F, rfl, congrArg (Value.int .i64) (by omega), hRF, hBF, .inl ⟨rfl, rfl, rfl⟩⟩
          case round =>
            clear hRF hBF
            obtain ⟨cc, p, F', rfl, rfl, hR', hB', hcase⟩ := hrel
            have hex : (cc = 0 ∧ Row wr w.heap.size (xs.length + ys.length + 1) (upd F (k + ys.length) c)) ∨ (0 < cc ∧ cc = c ∧ p = k + ys.length ∧ F' = F) := by
              rcases hcase with ⟨h1, h2, h3⟩ | ⟨h1, h2⟩
              · rcases Nat.eq_zero_or_pos cc with h4 | h4
                · refine .inl ⟨h4, ?_⟩
                  rw [← h1, h4, upd_nought HFZ.out, ← h3]
                  exact hR'
                · exact .inr ⟨h4, h1, h2, h3⟩
              · exact .inl ⟨h1, by rw [← h2]; exact hR'⟩
            clear hcase
            rcases hex with ⟨h0, hU⟩ | ⟨h0, rfl, rfl, rfl⟩
            · subst h0
              have hd3 : decide (0 < ((0 : Nat) : Int)) = false := by simp
              go_wp2_with fail
              go_roundw
              case rel =>
                refine ⟨k + 1, upd F (k + ys.length) c, by omega, by go_num, hU, hB', ?_, ?_⟩
                · intro j hj
                  rw [upd_other _ _ (by omega), HF.out j (by omega)]
                  exact HZ.out j (by omega)
                · rw [sm_succ, Nat.zero_add]
                  exact mul_outer (fun j hj => HF.out j (.inl hj)) HEi.out HE.out
              case measure => simp [intOf]; omega
            · have hd3 : decide (0 < (cc : Int)) = true := decide_eq_true (by omega)
              have hd4 : decide (0 < cc) = true := decide_eq_true h0
              obtain ⟨z1, z2⟩ := add_noughtN hc
              have ha : ∀ w, (callFunc 85 #[.int .u64 0, .int .u64 (cc : Int), .int .u64 0]).run Tryz.prog w = .ok (.value (.tuple #[.int .u64 (cc : Int), .int .u64 0])) w := by
                intro w
                have h := add64 0 cc 0 (by omega) w
                rw [z1, z2] at h
                exact h
              have hcs : wr.cell? ⟨w.heap.size, k + ys.length, none⟩ = some (.int .u64 0) := by
                rw [hR'.cell (j := k + ys.length) (by omega), HFZ.out]
                rfl
              have hfz := hR'.frozen (k + ys.length)
              have i3 : (k : Int) + (ys.length : Int) < (xs.length : Int) + (ys.length : Int) + 1 := by omega
              have i4 : k + ys.length < xs.length + ys.length + 1 := by omega
              clear z1 z2
              go_wp2_with fail
              go_roundw
              case rel => exact ⟨0, k + ys.length + 1, upd F' (k + ys.length) cc, rfl, congrArg (Value.int .i64) (by omega), hR'.set _ hc, hB'.setCell (p := ⟨w.heap.size, k + ys.length, none⟩) (Nat.le_refl _) _, .inr ⟨rfl, rfl⟩⟩
              case measure => simp [intOf]; omega
    · obtain rfl : k = xs.length := by omega
      have hd : decide (xs.length < xs.length) = false := by simp
      have hW := hR.whole (xs.length + ys.length + 1) (Nat.le_refl _)
      go_wp2_with fail
      refine (refTrim_any _ _ _ hW (by rw [upto_length]; omega)).mono ?_
      rintro e W1 ⟨r, rfl, hLr, hBr⟩
      go_wp2
      go_ret
      refine ⟨r, rfl, ?_, hB.trans (hBr.mono hB.size)⟩
      have e : val (upto f (xs.length + ys.length + 1)) = val xs * val ys := by
        rw [val_upto_sm, val_sm xs, ← HE.out]
        exact cut0 (sm_succ f 0 _) (by rw [Nat.zero_add]; exact HZ.out _ (Nat.le_refl _))
      rw [← e]
      exact hLr

end Go.Proofs.YtjnefacdindamaaGreatDoor


/- The document's Trim and Sub answer in memory that is new. Conditions: the slices read as limbs; lengths below 2^40. -/
namespace Go.Proofs.YtjnefacdindamaaGreatDoor
open Go.RowKit Go.Shelf Num
set_option linter.unusedVariables false
set_option maxRecDepth 100000

/-- The slice lies in no block below n. -/
def Fresh (n : Nat) (v : Value) : Prop := ∀ b, v.ownBlock = some b → n ≤ b

set_option maxHeartbeats 1000000 in
theorem refTrim_fresh (v : Value) (xs : List Nat) (w : World) (hL : Lim w.heap.size w v xs) (hlen : xs.length ≤ 1099511627777) :
    Calls Tryz.prog 59 #[v] w fun e W' => ∃ v', e = .returned v' ∧ Lim W'.heap.size W' v' (limbs (val xs)) ∧ Below w.heap.size w W' ∧ Fresh w.heap.size v' := by
  have ho := hL.ok
  have HT := Lib.hid (limbs_val ho)
  have ow0 : (w.alloc (.cells #[] 74)).ownsRow w.heap.size 74 1 (.slice (some ⟨w.heap.size, 0, none⟩) 0 0) 0 [] := World.ownsRow_lit w #[] 0 (Nat.le_refl _) (by unfold maxLen; omega) (by simp)
  obtain ⟨A, cap, rfl, hc, hn, _, hr⟩ := id hL
  cases A with
  | none =>
    have hc0 : cap = 0 := hn rfl
    subst hc0
    obtain rfl : xs = [] := List.eq_nil_of_length_eq_zero (by omega)
    clear hr hn
    have hk0 : hgt [] = 0 := rfl
    have HK := Lib.hid hk0
    clear hk0
    go_enter Tryz.func59, Tryz.ntmps59
    go_wp2
    go_loop [3] (fun t => t = .int .i64 0) (fun t => 0)
    case atStart => rfl
    case round =>
      obtain rfl := hrel
      have hLk := (hL.take (0) (by omega)).alloc (.cells #[] 74)
      have hkc : 0 ≤ 0 := by omega
      have hkI : ((0 : Nat) : Int) ≤ ((0 : Nat) : Int) := by omega
      have hkn : decide (((0 : Nat) : Int) < 0) = false := by simp; try omega
      go_wp2_with (at_builtin; refine append_lim _ (by rfl) (.tmp 18) (.tmp 21) rfl w.heap.size (.slice (some ⟨w.heap.size, 0, none⟩) 0 0) 0 [] rfl ow0 _ (none) (0) (0) (([] : List Nat).take 0) rfl hLk (by omega) (by simp) ?_; intro v' w1 own1 grow1)
      go_ret
      have own2 : w1.ownsRow w.heap.size 74 1 v' (0 + (([] : List Nat).take 0).length) (Us (([] : List Nat).take 0)) := by simpa using own1
      exact ⟨v', rfl, by rw [HT.out, ← trim_take, HK.out]; exact Lim.of_own own2 (ok_take ho _) (Nat.le_refl _), ((Below.refl _ _).alloc (Nat.le_refl _) _).grown grow1 (by simp) (fun k e => by simp [Value.ownBlock] at e; omega), fun b e => (own2.lt b e).1⟩
  | some ad =>
    go_enter Tryz.func59, Tryz.ntmps59
    go_wp2
    go_loop [3] (fun t => ∃ k : Nat, k ≤ xs.length ∧ t = .int .i64 k ∧ hgt (xs.take k) = hgt xs) (fun t => (intOf t).toNat)
    case atStart => exact ⟨xs.length, Nat.le_refl _, rfl, by rw [List.take_length]⟩
    case round =>
      obtain ⟨k, hk, rfl, hh⟩ := hrel
      have HH := Lib.hid hh
      clear hh
      rcases Nat.eq_zero_or_pos k with rfl | hp
      · have HK := Lib.hid (hgt_end_zero xs HH.out)
        have hLk := (hL.take (0) (by omega)).alloc (.cells #[] 74)
        have hkc : 0 ≤ cap := by omega
        have hkI : ((0 : Nat) : Int) ≤ ((cap : Nat) : Int) := by omega
        have hkn : decide (((0 : Nat) : Int) < 0) = false := by simp; try omega
        go_wp2_with (at_builtin; refine append_lim _ (by rfl) (.tmp 18) (.tmp 21) rfl w.heap.size (.slice (some ⟨w.heap.size, 0, none⟩) 0 0) 0 [] rfl ow0 _ (some ad) (0) (cap) (xs.take (0)) rfl hLk (by omega) (by simp) ?_; intro v' w1 own1 grow1)
        go_ret
        have own2 : w1.ownsRow w.heap.size 74 1 v' (0 + (xs.take (0)).length) (Us (xs.take (0))) := by simpa using own1
        exact ⟨v', rfl, by rw [HT.out, ← trim_take, HK.out]; exact Lim.of_own own2 (ok_take ho _) (Nat.le_refl _), ((Below.refl _ _).alloc (Nat.le_refl _) _).grown grow1 (by simp) (fun k e => by simp [Value.ownBlock] at e; omega), fun b e => (own2.lt b e).1⟩
      · obtain ⟨j, rfl⟩ : ∃ j, k = j + 1 := ⟨k - 1, by omega⟩
        obtain ⟨b, off, hA, hb, hcell⟩ := hr (by omega)
        injection hA with hA
        subst hA
        have hck := hcell j (by omega)
        clear hcell hr
        by_cases hz : lat xs j = 0
        · have H1 := Lib.hid ((hgt_step xs j (by omega) hz).symm.trans HH.out)
          have hcz : w.cell? ⟨b, off + j, none⟩ = some (.int .u64 0) := by rw [hck, hz]; rfl
          clear hck hz HH
          go_wp2
          go_round
          case rel => exact ⟨j, by omega, rfl, H1.out⟩
          case measure => simp [intOf]
        · have HK := Lib.hid (hgt_end xs j (by omega) HH.out hz)
          have hne : (((lat xs j : Nat) : Int) == 0) = false := by simpa using hz
          clear HH hz
          have hLk := (hL.take (j + 1) (by omega)).alloc (.cells #[] 74)
          have hkc : j + 1 ≤ cap := by omega
          have hkI : ((j + 1 : Nat) : Int) ≤ ((cap : Nat) : Int) := by omega
          have hkn : decide (((j + 1 : Nat) : Int) < 0) = false := by simp; try omega
          go_wp2_with (at_builtin; refine append_lim _ (by rfl) (.tmp 18) (.tmp 21) rfl w.heap.size (.slice (some ⟨w.heap.size, 0, none⟩) 0 0) 0 [] rfl ow0 _ (some ⟨b, off, none⟩) (j + 1) (cap) (xs.take (j + 1)) rfl hLk (by omega) (by simp) ?_; intro v' w1 own1 grow1)
          go_ret
          have own2 : w1.ownsRow w.heap.size 74 1 v' (0 + (xs.take (j + 1)).length) (Us (xs.take (j + 1))) := by simpa using own1
          exact ⟨v', rfl, by rw [HT.out, ← trim_take, HK.out]; exact Lim.of_own own2 (ok_take ho _) (Nat.le_refl _), ((Below.refl _ _).alloc (Nat.le_refl _) _).grown grow1 (by simp) (fun k e => by simp [Value.ownBlock] at e; omega), fun b e => (own2.lt b e).1⟩

set_option maxRecDepth 100000 in
set_option maxHeartbeats 4000000 in
theorem refSub_fresh (v u : Value) (xs ys : List Nat) (w : World) (hLa : Lim w.heap.size w v xs) (hLb : Lim w.heap.size w u ys) (hlx : xs.length ≤ 1099511627776) (hly : ys.length ≤ 1099511627776) (hle : val ys ≤ val xs) :
    Calls Tryz.prog 68 #[v, u] w fun e W' => ∃ r, e = .returned (.tuple #[r, .bool true]) ∧ Lim W'.heap.size W' r (limbs (val xs - val ys)) ∧ Below w.heap.size w W' ∧ Fresh w.heap.size r := by
  have hx := hLa.ok
  have hy := hLb.ok
  obtain ⟨A, ca, rfl, _⟩ := id hLa
  obtain ⟨B, cb, rfl, _⟩ := id hLb
  have hcm : decide (cmpN (val xs) (val ys) < 0) = false := by
    unfold cmpN
    rw [if_neg (by omega)]
    split <;> simp
  have HLE := Lib.hid hle
  clear hle
  go_enter Tryz.func68, Tryz.ntmps68
  go_wp2_with fail
  refine (refCompare_any _ _ xs ys _ hLa hLb hlx hly).mono ?_
  rintro e w' ⟨rfl, rfl⟩
  go_wp2
  go_loopw [6, 7, 8] (fun o c i wr => ∃ (k : Nat) (L : List Nat) (cc : Nat), k ≤ max xs.length ys.length ∧ i = .int .i64 k ∧ c = .int .u64 (cc : Int) ∧ subF (upto (pairAt xs ys hx hy) k) = (L, cc) ∧
      wr.ownsRow w.heap.size 74 1 o L.length (Us L) ∧ Below w.heap.size w wr)
    (fun _ _ i _ => max xs.length ys.length - (intOf i).toNat)
  case atStart => exact ⟨0, [], 0, Nat.zero_le _, rfl, rfl, rfl, World.ownsRow_nil _ _ _ _, Below.refl _ _⟩
  case round =>
    obtain ⟨k, L, c, hk, rfl, rfl, hP, own, hB⟩ := hrel
    obtain ⟨i1, i2, i3, i4⟩ := subF_inv (upto (pairAt xs ys hx hy) k)
    rw [upto_length, hP] at i2
    rw [hP] at i1 i3
    dsimp only at i1 i2 i3
    clear i4
    by_cases hlt : k < max xs.length ys.length
    · have hsn := subF_upto xs ys hx hy k
      rw [hP] at hsn
      have HS := Lib.hid hsn
      clear hsn hP
      have hll : L.length ≤ k := by omega
      clear i2
      have hcall := sub64 (lat xs k) (lat ys k) c i1
      have La := hLa.next (hB)
      have Lb := hLb.next (hB)
      have hd : decide (k < max xs.length ys.length) = true := by simpa using hlt
      have hd' : decide ((k : Int) < max (xs.length : Int) (ys.length : Int)) = true := decide_eq_true (by omega)
      have hlo : subLo (lat xs k) (lat ys k) c < M := subLo_lt _ _ _
      go_wp2_with fail
      refine (limb_any _ _ xs k _ La).mono ?_
      rintro e w' ⟨rfl, rfl⟩
      go_wp2_with fail
      refine (limb_any _ _ ys k _ Lb).mono ?_
      rintro e w' ⟨rfl, rfl⟩
      go_wp2_with (at_builtin; refine append_lim _ (by rfl) (.tmp 35) (.tmp 37) rfl w.heap.size u6 L.length (Us L) rfl (own.alloc _) _ (some ⟨wr.heap.size, 0, none⟩) 1 1 [subLo (lat xs k) (lat ys k) c] rfl (lim_lit1 wr _ hlo) (by omega) (by have := hB.size; simp; omega) ?_; intro v1 w1 own1 grow1)
      have b1 : Below w.heap.size w w1 := (hB.alloc hB.size _).grown grow1 (by have := hB.size; simp; omega) (fun k e => (own.lt k e).1)
      go_roundw
      case rel => exact ⟨k + 1, _, _, by omega, by go_num, rfl, HS.out, by rw [Us_append, List.length_append]; exact own1, b1⟩
      case measure => simp [intOf]; omega
    · obtain rfl : k = max xs.length ys.length := by omega
      have hll : L.length ≤ max xs.length ys.length := by omega
      have ht := subF_total (upto (pairAt xs ys hx hy) (max xs.length ys.length))
      rw [av_upto xs ys hx hy _ (by omega), bv_upto xs ys hx hy _ (by omega), hP] at ht
      have HT := Lib.hid ((ht HLE.out).trans (limbs_val i3).symm)
      clear ht hP i1
      have Lv := Lim.of_own own i3 (Nat.le_refl _)
      have hd : decide (max xs.length ys.length < max xs.length ys.length) = false := by simp
      have hd' : decide (((max xs.length ys.length : Nat) : Int) < max (xs.length : Int) (ys.length : Int)) = false := decide_eq_false (by omega)
      go_wp2_with fail
      refine (refTrim_fresh _ L _ Lv (by omega)).mono ?_
      rintro e W2 ⟨r, rfl, hR, hb, hfr⟩
      go_wp2
      go_ret2
      exact ⟨r, rfl, by rw [HT.out]; exact hR, hB.trans (hb.mono hB.size), fun b e => Nat.le_trans hB.size (hfr b e)⟩

end Go.Proofs.YtjnefacdindamaaGreatDoor


/- The document's division (lodgeref02.Divide), bit by bit, is the division. Conditions: both slices read as limbs; lengths below 2^38. -/
namespace Go.Proofs.YtjnefacdindamaaGreatDoor
open Go.RowKit Go.Shelf Num
set_option linter.unusedVariables false
set_option maxRecDepth 100000

theorem Lim.set_off {n₀ : Nat} {w : World} {v : Value} {xs : List Nat} (h : Lim n₀ w v xs) {g N : Nat} (hf : Fresh N v) (hg : g < N) (i : Nat) (u : Value) : Lim n₀ (w.setCell ⟨g, i, none⟩ u) v xs := by
  obtain ⟨A, cap, hv, hc, hn, ho, hr⟩ := h
  refine ⟨A, cap, hv, hc, hn, ho, fun hp => ?_⟩
  obtain ⟨b, off, hA, hb, hcell⟩ := hr hp
  have hb2 : N ≤ b := hf b (by rw [hv, hA]; rfl)
  exact ⟨b, off, hA, hb, fun j hj => (World.cell?_of_block (w := w) (Below.heap_setCell w _ u b (by dsimp only; omega))).trans (hcell j hj)⟩

theorem or_bit {q0 t y : Nat} (ht : t < 64) (hq : q0 < M) (hy : q0 = 2 ^ (t + 1) * y) : bits BinOp.or IntKind.u64 (q0 : Int) (IntKind.u64.wrap (2 ^ t)) = ((q0 + 2 ^ t : Nat) : Int) ∧ q0 + 2 ^ t < M := by
  have h1 : 2 ^ t < 2 ^ (t + 1) := Nat.pow_lt_pow_right (by omega) (by omega)
  have h2 : 2 ^ t < M := Nat.lt_of_lt_of_le h1 (by rw [M_two]; exact Nat.pow_le_pow_right (by omega) (by omega))
  have e : IntKind.u64.wrap ((2 : Int) ^ t) = ((2 ^ t : Nat) : Int) := by
    rw [show (2 : Int) ^ t = ((2 ^ t : Nat) : Int) by rw [Int.natCast_pow]; rfl, IntKind.wrap_u64]
    unfold M at h2
    generalize 2 ^ t = z at *
    omega
  have e2 : q0 ||| 2 ^ t = q0 + 2 ^ t := by rw [hy, Nat.or_comm, or_lowS h1, Nat.add_comm]
  rw [e, bits_or_u64_nat _ _ hq h2, e2]
  refine ⟨rfl, ?_⟩
  rw [← e2, M_two]
  rw [M_two] at hq h2
  exact Nat.or_lt_two_pow hq h2
theorem double_len {r V b k : Nat} (h : r < V) (g : V < M ^ k) (hb : b ≤ 1) : 2 * r + b < M ^ (k + 1) := by
  rw [Nat.pow_succ]
  have : M ^ k * 2 ≤ M ^ k * M := Nat.mul_le_mul_left _ (by unfold M; omega)
  generalize M ^ k * M = P at *
  generalize M ^ k = Q at *
  omega

set_option maxRecDepth 100000 in
set_option maxHeartbeats 8000000 in
theorem refDivide_zero (v u : Value) (xs ys : List Nat) (w : World) (hLa : Lim w.heap.size w v xs) (hLb : Lim w.heap.size w u ys) (hlx : xs.length ≤ 274877906944) (hly : ys.length ≤ 274877906944) (h0 : val ys = 0) :
    Calls Tryz.prog 61 #[v, u] w fun e W' => e = .returned (.tuple #[.slice none 0 0, .slice none 0 0, .bool false]) ∧ Below w.heap.size w W' := by
  obtain ⟨A, ca, rfl, _⟩ := id hLa
  obtain ⟨B, cb, rfl, _⟩ := id hLb
  have hq := refBits_any _ ys _ hLb (by omega)
  rw [h0, nbits_zero] at hq
  have HQ := Lib.hid hq
  clear hq
  go_enter Tryz.func61, Tryz.ntmps61
  go_wp2_with fail
  refine HQ.out.mono ?_
  rintro e W1 ⟨rfl, hB1⟩
  go_wp2
  go_ret3
  exact ⟨rfl, hB1⟩

set_option maxRecDepth 100000 in
set_option maxHeartbeats 8000000 in
theorem refDivide_any (v u : Value) (xs ys : List Nat) (w : World) (hLa : Lim w.heap.size w v xs) (hLb : Lim w.heap.size w u ys) (hlx : xs.length ≤ 274877906944) (hly : ys.length ≤ 274877906944) (h0 : val ys ≠ 0) :
    Calls Tryz.prog 61 #[v, u] w fun e W' => ∃ vq vr, e = .returned (.tuple #[vq, vr, .bool true]) ∧ Lim W'.heap.size W' vq (limbs (val xs / val ys)) ∧ Lim W'.heap.size W' vr (limbs (val xs % val ys)) ∧ Below w.heap.size w W' := by
  obtain ⟨i0, hi, hz0, hz1, hz2⟩ := info_parts infoU
  have hpos : 0 < val ys := by omega
  obtain ⟨hn1, _⟩ := nbits_ge h0
  have hnx : nbits (val xs) ≤ 64 * xs.length := nbits_val hLa.ok (Nat.le_refl _)
  have hd0 : (((nbits (val ys) : Nat) : Int) == 0) = false := by simp; omega
  have hlb : (limbs (val ys)).length ≤ ys.length := limbs_len (val_lt hLb.ok)
  have HVY := Lib.hid (val_lt hLb.ok)
  have HTOP := Lib.hid (nbits_le.1 (Nat.le_refl (nbits (val xs))))
  obtain ⟨A, ca, rfl, _⟩ := id hLa
  obtain ⟨B, cb, rfl, _⟩ := id hLb
  generalize hnb : nbits (val xs) = nb at *
  have HNB := Lib.hid hnb
  clear hnb h0
  go_enter Tryz.func61, Tryz.ntmps61
  go_wp2_with fail
  refine (refBits_any _ ys _ hLb (by omega)).mono ?_
  rintro e W1 ⟨rfl, hB1⟩
  replace hLa := hLa.next hB1
  replace hLb := hLb.next hB1
  go_wp2_with (refine wpList_make_row _ rfl _ _ 69 rfl 74 i0 (.int .u64 0) Tryz.underlying69 hi hz0 hz1 rfl .i64 .i64 xs.length rfl rfl (by rw [hz2]; omega) (by omega) ?_)
  have hR0 := row_made W1 xs.length
  have hB2 : Below W1.heap.size W1 (W1.alloc (.cells (madeCells #[.int .u64 0] xs.length) 74)) := (Below.refl _ W1).alloc (Nat.le_refl _) _
  have hq := refBits_any _ xs _ (hLa.next hB2) (by omega)
  rw [HNB.out] at hq
  have HQ := Lib.hid hq
  clear hq
  generalize W1.alloc (.cells (madeCells #[.int .u64 0] xs.length) 74) = W2 at *
  refine HQ.out.mono ?_
  rintro e W3 ⟨rfl, hB3⟩
  replace hR0 := hR0.below hB3 hR0.lt
  replace hB3 := hB2.trans (hB3.mono hB2.size)
  clear HQ hB2 hd0
  go_wp2_with fail
  go_loopw [8, 9] (fun rv iv wr => ∃ (c : Nat) (q : Nat → Nat), c ≤ nb ∧ iv = .int .i64 ((c : Int) - 1) ∧ Lim wr.heap.size wr rv (limbs (val xs / 2 ^ c % val ys)) ∧ Row wr W1.heap.size xs.length q ∧ Below W1.heap.size W1 wr ∧
      sm q 0 xs.length = val xs / 2 ^ c / val ys * 2 ^ c)
    (fun _ iv _ => (intOf iv + 1).toNat)
  case atStart =>
    have e : val xs / 2 ^ nb = 0 := Nat.div_eq_of_lt HTOP.out
    refine ⟨nb, fun _ => 0, Nat.le_refl _, congrArg (Value.int .i64) (by omega), ?_, hR0, hB3, ?_⟩
    · rw [e, Nat.zero_mod, limbs_zero]
      exact Lim.nil _ _
    · rw [e, Nat.zero_div, Nat.zero_mul]
      exact sm_nought (fun _ _ => rfl)
  case round =>
    obtain ⟨c, q, hc, rfl, hLr, hRq, hB, hq⟩ := hrel
    clear hR0 hB3
    have HQ := Lib.hid hq
    clear hq
    rcases Nat.eq_zero_or_pos c with rfl | hp
    · rw [show (((0 : Nat) : Int) - 1) = -1 by omega]
      have hWq := hRq.whole xs.length (Nat.le_refl _)
      have hr1 : (limbs (val xs / 2 ^ 0 % val ys)).length ≤ 1099511627777 := by
        have h1 := Nat.mod_lt (val xs / 2 ^ 0) hpos
        have := limbs_len (Nat.lt_trans h1 HVY.out)
        omega
      go_wp2_with fail
      refine (refTrim_any _ _ _ hWq (by rw [upto_length]; omega)).mono ?_
      rintro e W7 ⟨vq, rfl, hLq, hB7⟩
      go_wp2_with fail
      refine (refTrim_any _ _ _ (hLr.next hB7) hr1).mono ?_
      rintro e W8 ⟨vr, rfl, hLr', hB8⟩
      go_wp2
      go_ret3
      rw [val_upto_sm, HQ.out, Nat.pow_zero, Nat.div_one, Nat.mul_one] at hLq
      rw [val_limbs, Nat.pow_zero, Nat.div_one] at hLr'
      exact ⟨vq, vr, rfl, hLq.next hB8, hLr', ((hB1.trans (hB.mono hB1.size)).trans (hB7.mono (Nat.le_trans hB1.size hB.size))).trans (hB8.mono (Nat.le_trans (Nat.le_trans hB1.size hB.size) hB7.size))⟩
    · obtain ⟨k, rfl⟩ : ∃ k, c = k + 1 := ⟨c - 1, by omega⟩
      rw [show (((k + 1 : Nat) : Int) - 1) = (k : Int) by omega]
      have La := hLa.next hB
      have Lb := hLb.next hB
      have hbit := bit_le (val xs) k
      have hg := hRq.lt
      have hrl := Nat.mod_lt (val xs / 2 ^ (k + 1)) hpos
      have hlen0 : (limbs (val xs / 2 ^ (k + 1) % val ys)).length ≤ 1099511627776 := by
        have := limbs_len (Nat.lt_trans hrl HVY.out)
        omega
      have HLEN := Lib.hid (double_len hrl HVY.out hbit)
      clear hrl
      go_wp2_with fail
      refine (refBit_any _ _ xs k _ La (by omega)).mono ?_
      rintro e w' ⟨rfl, rfl⟩
      have hD := refDouble_any _ _ ((bitN (val xs) k : Nat) : Int) wr hLr hlen0 (by omega) (by omega)
      rw [val_limbs, show (((bitN (val xs) k : Nat) : Int) % 2).toNat = bitN (val xs) k by omega] at hD
      have HD := Lib.hid hD
      clear hD
      go_wp2_with fail
      refine HD.out.mono ?_
      rintro e W4 ⟨v4, rfl, L4, hb4⟩
      replace La := La.next hb4
      replace Lb := Lb.next hb4
      replace hRq := hRq.below hb4 hg
      replace hg := hRq.lt
      replace hB := hB.trans (hb4.mono hB.size)
      have hl4 : (limbs (2 * (val xs / 2 ^ (k + 1) % val ys) + bitN (val xs) k)).length ≤ 1099511627776 := by
        have := limbs_len HLEN.out
        omega
      clear hb4 HD hLr
      rcases Nat.lt_or_ge (2 * (val xs / 2 ^ (k + 1) % val ys) + bitN (val xs) k) (val ys) with hs | hs
      · obtain ⟨e1, e2⟩ := bit_no hpos hs
        have HS := Lib.hid hs
        clear hs
        go_wp2_with fail
        refine (refSub_no _ _ _ ys _ L4 Lb hl4 (by omega) (by rw [val_limbs]; exact HS.out)).mono ?_
        rintro e w' ⟨rfl, rfl⟩
        have HQ2 := Lib.hid (HQ.out.trans e2.symm)
        rw [← e1] at L4
        clear e1 e2
        go_wp2_with fail
        go_roundw
        case rel => exact ⟨k, q, by omega, by go_num, L4, hRq, hB, HQ2.out⟩
        case measure => simp [intOf]
      · obtain ⟨e1, e2⟩ := bit_yes hpos hs
        have HS := Lib.hid hs
        clear hs
        go_wp2_with fail
        refine (refSub_fresh _ _ _ ys _ L4 Lb hl4 (by omega) (by rw [val_limbs]; exact HS.out)).mono ?_
        rintro e W5 ⟨v5, rfl, L5, hb5, hf5⟩
        rw [val_limbs, ← e1] at L5
        replace hRq := hRq.below hb5 hg
        replace hB := hB.trans (hb5.mono hB.size)
        have hk64 : k / 64 < xs.length := by omega
        obtain ⟨y, hy⟩ := bit_set hRq.1 hk64 HQ.out
        obtain ⟨hor, hvM⟩ := or_bit (Nat.mod_lt k (by omega)) (hRq.1 (k / 64)) hy
        obtain ⟨vv, hvv⟩ : ∃ vv, vv = q (k / 64) + 2 ^ (k % 64) := ⟨_, rfl⟩
        rw [← hvv] at hor hvM
        have HVV := Lib.hid hvv
        have HE2 := Lib.hid e2
        clear hy hvv e1 e2
        have hcs := hRq.cell (j := k / 64) hk64
        have hfz := hRq.frozen (k / 64)
        have j0 : (k : Int) ≤ 9223372036854775807 := by omega
        have j1 : (k : Int) / 64 < (xs.length : Int) := by omega
        go_wp2_with fail
        go_roundw
        case rel =>
          refine ⟨k, upd q (k / 64) vv, by omega, rfl, (L5.set_off hf5 hg (k / 64) _).mono (Nat.le_of_eq (by simp [World.setCell])), hRq.set _ hvM, hB.setCell (p := ⟨W1.heap.size, k / 64, none⟩) (Nat.le_refl _) _, ?_⟩
          rw [sm_set hk64 HVV.out, two_place, HQ.out]
          exact HE2.out.symm
        case measure => simp [intOf]

end Go.Proofs.YtjnefacdindamaaGreatDoor


/- lodgeref01.Same answers whether two lists are one number; bounds by powers of 2^64. Conditions: the slices read as limbs; lengths below 2^40. -/
namespace Go.Proofs.YtjnefacdindamaaGreatDoor
open Go.RowKit Go.Shelf Num
set_option linter.unusedVariables false
set_option maxRecDepth 100000

theorem val_pow {xs : List Nat} {k : Nat} (ho : Ok xs) (h : xs.length ≤ k) : val xs < M ^ k := Nat.lt_of_lt_of_le (val_lt ho) (pow_mono h)
theorem mul_pow {a b p q : Nat} (ha : a < M ^ p) (hb : b < M ^ q) : a * b < M ^ (p + q) := by
  rw [Nat.pow_add]
  exact Nat.mul_lt_mul'' ha hb
theorem add_pow {a b p : Nat} (ha : a < M ^ p) (hb : b < M ^ p) : a + b < M ^ (p + 1) := by
  rw [Nat.pow_succ]
  have : M ^ p * 2 ≤ M ^ p * M := Nat.mul_le_mul_left _ (by unfold M; omega)
  omega
theorem pow_up {a p q : Nat} (ha : a < M ^ p) (h : p ≤ q) : a < M ^ q := Nat.lt_of_lt_of_le ha (pow_mono h)
theorem len_up {n p k : Nat} (h : n < M ^ p) (hp : p ≤ k) : (limbs n).length ≤ k := Nat.le_trans (limbs_len h) hp

end Go.Proofs.YtjnefacdindamaaGreatDoor


/- lodgeref04's Rest, Times and Power: the document's answers of layer 4. Conditions: the slices read as limbs; lengths below 2^35. -/
namespace Go.Proofs.YtjnefacdindamaaGreatDoor
open Go.RowKit Go.Shelf Num
set_option linter.unusedVariables false
set_option maxRecDepth 100000

set_option maxRecDepth 100000 in
set_option maxHeartbeats 4000000 in
theorem refRest_zero (v u : Value) (xs ys : List Nat) (w : World) (hLa : Lim w.heap.size w v xs) (hLb : Lim w.heap.size w u ys) (hlx : xs.length ≤ 274877906944) (hly : ys.length ≤ 274877906944) (h0 : val ys = 0) :
    Calls Tryz.prog 62 #[v, u] w (GivesNo w) := by
  have HD := Lib.hid (refDivide_zero v u xs ys w hLa hLb hlx hly h0)
  obtain ⟨A, ca, rfl, _⟩ := id hLa
  obtain ⟨B, cb, rfl, _⟩ := id hLb
  go_enter Tryz.func62, Tryz.ntmps62
  go_wp2_with fail
  refine HD.out.mono ?_
  rintro e W1 ⟨rfl, hB⟩
  go_wp2
  go_ret2
  exact ⟨rfl, hB⟩

set_option maxRecDepth 100000 in
set_option maxHeartbeats 4000000 in
theorem refRest_any (v u : Value) (xs ys : List Nat) (w : World) (hLa : Lim w.heap.size w v xs) (hLb : Lim w.heap.size w u ys) (hlx : xs.length ≤ 274877906944) (hly : ys.length ≤ 274877906944) (h0 : val ys ≠ 0) :
    Calls Tryz.prog 62 #[v, u] w (GivesOk (val xs % val ys) w) := by
  have HD := Lib.hid (refDivide_any v u xs ys w hLa hLb hlx hly h0)
  obtain ⟨A, ca, rfl, _⟩ := id hLa
  obtain ⟨B, cb, rfl, _⟩ := id hLb
  go_enter Tryz.func62, Tryz.ntmps62
  go_wp2_with fail
  refine HD.out.mono ?_
  rintro e W1 ⟨vq, vr, rfl, _, hLr, hB⟩
  go_wp2
  go_ret2
  exact ⟨vr, rfl, hLr, hB⟩

theorem mul_len {xs ys : List Nat} (hx : Ok xs) (hy : Ok ys) : (limbs (val xs * val ys)).length ≤ xs.length + ys.length := by
  refine limbs_len ?_
  rw [Nat.pow_add]
  exact Nat.mul_lt_mul'' (val_lt hx) (val_lt hy)

set_option maxRecDepth 100000 in
set_option maxHeartbeats 4000000 in
theorem refTimes_zero (v u z : Value) (xs ys zs : List Nat) (w : World) (hLa : Lim w.heap.size w v xs) (hLb : Lim w.heap.size w u ys) (hLc : Lim w.heap.size w z zs) (hlx : xs.length ≤ 137438953472) (hly : ys.length ≤ 137438953472) (hlz : zs.length ≤ 137438953472) (h0 : val zs = 0) :
    Calls Tryz.prog 64 #[v, u, z] w (GivesNo w) := by
  have HD := Lib.hid (refMul_any v u xs ys w hLa hLb (by omega) (by omega))
  have hl := mul_len hLa.ok hLb.ok
  obtain ⟨A, ca, rfl, _⟩ := id hLa
  obtain ⟨B, cb, rfl, _⟩ := id hLb
  obtain ⟨C, cc, rfl, _⟩ := id hLc
  go_enter Tryz.func64, Tryz.ntmps64
  go_wp2_with fail
  refine HD.out.mono ?_
  rintro e W1 ⟨r1, rfl, L1, hB1⟩
  go_wp2_with fail
  refine (refRest_zero r1 _ _ zs W1 L1 (hLc.next hB1) (by omega) (by omega) h0).mono ?_
  rintro e W2 ⟨rfl, hB2⟩
  go_wp2
  go_ret2
  exact ⟨rfl, hB1.trans (hB2.mono hB1.size)⟩

set_option maxRecDepth 100000 in
set_option maxHeartbeats 4000000 in
theorem refTimes_any (v u z : Value) (xs ys zs : List Nat) (w : World) (hLa : Lim w.heap.size w v xs) (hLb : Lim w.heap.size w u ys) (hLc : Lim w.heap.size w z zs) (hlx : xs.length ≤ 137438953472) (hly : ys.length ≤ 137438953472) (hlz : zs.length ≤ 137438953472) (h0 : val zs ≠ 0) :
    Calls Tryz.prog 64 #[v, u, z] w (GivesOk (val xs * val ys % val zs) w) := by
  have HD := Lib.hid (refMul_any v u xs ys w hLa hLb (by omega) (by omega))
  have hl := mul_len hLa.ok hLb.ok
  obtain ⟨A, ca, rfl, _⟩ := id hLa
  obtain ⟨B, cb, rfl, _⟩ := id hLb
  obtain ⟨C, cc, rfl, _⟩ := id hLc
  go_enter Tryz.func64, Tryz.ntmps64
  go_wp2_with fail
  refine HD.out.mono ?_
  rintro e W1 ⟨r1, rfl, L1, hB1⟩
  go_wp2_with fail
  refine (refRest_any r1 _ _ zs W1 L1 (hLc.next hB1) (by omega) (by omega) h0).mono ?_
  rintro e W2 ⟨r2, rfl, L2, hB2⟩
  rw [val_limbs] at L2
  go_wp2
  go_ret2
  exact ⟨r2, rfl, L2, hB1.trans (hB2.mono hB1.size)⟩

set_option maxRecDepth 100000 in
set_option maxHeartbeats 4000000 in
theorem refPower_zero (va ve vm : Value) (az es ms : List Nat) (w : World) (hLa : Lim w.heap.size w va az) (hLe : Lim w.heap.size w ve es) (hLm : Lim w.heap.size w vm ms)
    (hla : az.length ≤ 34359738368) (hle : es.length ≤ 34359738368) (hlm : ms.length ≤ 34359738368) (h0 : val ms = 0) :
    Calls Tryz.prog 44 #[va, ve, vm] w (GivesNo w) := by
  have K := refRest_zero _ vm [1] ms _ (lim_lit1 w 1 (small_ok (by omega))) (hLm.alloc _) (by simp) (by omega) h0
  have HK := Lib.hid K
  clear K
  obtain ⟨A, ca, rfl, _⟩ := id hLa
  obtain ⟨B, cb, rfl, _⟩ := id hLe
  obtain ⟨C, cc, rfl, _⟩ := id hLm
  go_enter Tryz.func44, Tryz.ntmps44
  go_wp2_with fail
  refine HK.out.mono ?_
  rintro e W1 ⟨rfl, hB⟩
  go_wp2
  go_ret2
  exact ⟨rfl, ((Below.refl _ w).alloc (Nat.le_refl _) _).trans (hB.mono (by simp))⟩

set_option maxRecDepth 100000 in
set_option maxHeartbeats 4000000 in
theorem refPower_any (va ve vm : Value) (az es ms : List Nat) (w : World) (hLa : Lim w.heap.size w va az) (hLe : Lim w.heap.size w ve es) (hLm : Lim w.heap.size w vm ms)
    (hla : az.length ≤ 34359738368) (hle : es.length ≤ 34359738368) (hlm : ms.length ≤ 34359738368) (h0 : val ms ≠ 0) :
    Calls Tryz.prog 44 #[va, ve, vm] w (GivesOk (pm (val az) (val es) (val ms)) w) := by
  have K := refRest_any _ vm [1] ms _ (lim_lit1 w 1 (small_ok (by omega))) (hLm.alloc _) (by simp) (by omega) h0
  rw [show val [1] = 1 from rfl, ← pm_zero (val az)] at K
  have HK := Lib.hid K
  clear K
  have hnb := nbits_len hLe.ok
  have hlen : ∀ k, (limbs (pm (val az) k (val ms))).length ≤ ms.length := fun k => limbs_len (Nat.lt_trans (pm_lt _ _ (by omega)) (val_lt hLm.ok))
  have HLEN := Lib.hid hlen
  clear hlen
  obtain ⟨A, ca, rfl, _⟩ := id hLa
  obtain ⟨B, cb, rfl, _⟩ := id hLe
  obtain ⟨C, cc, rfl, _⟩ := id hLm
  go_enter Tryz.func44, Tryz.ntmps44
  go_wp2_with fail
  refine HK.out.mono ?_
  rintro e W1 ⟨r1, rfl, L1, hB1⟩
  have hBw : Below w.heap.size w W1 := ((Below.refl _ w).alloc (Nat.le_refl _) _).trans (hB1.mono (by simp))
  clear HK hB1
  go_wp2_with fail
  refine (refBits_any _ es W1 (hLe.next hBw) (by omega)).mono ?_
  rintro e W2 ⟨rfl, hB2⟩
  replace L1 := L1.next hB2
  have hBw2 := hBw.trans (hB2.mono hBw.size)
  clear hBw hB2
  rw [show 0 = val es / 2 ^ nbits (val es) from (half_top _).symm] at L1
  generalize hN : nbits (val es) = N at *
  go_wp2
  go_loopw [8, 10] (fun p i wr => ∃ (c : Nat), c ≤ N ∧ i = .int .i64 ((c : Int) - 1) ∧ Lim wr.heap.size wr p (limbs (pm (val az) (val es / 2 ^ c) (val ms))) ∧ Below w.heap.size w wr)
    (fun _ i _ => (intOf i + 1).toNat)
  case atStart => exact ⟨N, Nat.le_refl _, rfl, L1, hBw2⟩
  case round =>
    obtain ⟨c, hc, rfl, hLp, hB⟩ := hrel
    rcases Nat.eq_zero_or_pos c with rfl | hp
    · have hd : decide (0 ≤ (((0 : Nat) : Int) - 1)) = false := by simp
      rw [half_zero] at hLp
      go_wp2
      go_ret2
      exact ⟨_, rfl, hLp, hB⟩
    · obtain ⟨j, rfl⟩ : ∃ j, c = j + 1 := ⟨c - 1, by omega⟩
      rw [show (((j + 1 : Nat) : Int) - 1) = (j : Int) by omega]
      have hd : decide (0 ≤ (j : Int)) = true := by simp
      have hl1 := HLEN.out (val es / 2 ^ (j + 1))
      have K1 := refTimes_any _ _ _ _ _ ms wr hLp hLp (hLm.next hB) (by omega) (by omega) (by omega) h0
      rw [val_limbs, ← pm_add] at K1
      have HK1 := Lib.hid K1
      clear K1
      obtain ⟨P, cp, rfl, _⟩ := id hLp
      go_wp2_with fail
      refine HK1.out.mono ?_
      rintro e W2 ⟨r2, rfl, L2, hB2⟩
      have hB12 := hB.trans (hB2.mono hB.size)
      clear HK1
      have hst := half_step (val es) j
      have K2 := refBit_any W2.heap.size (.slice B es.length cb) es j W2 ((hLe.next hB).next hB2) (by omega)
      rcases (show bitN (val es) j = 0 ∨ bitN (val es) j = 1 by have := bitN_le (val es) j; omega) with hbit | hbit
      · rw [hbit] at K2 hst
        have HST := Lib.hid hst
        have HK2 := Lib.hid K2
        clear K2 hst
        go_wp2_with fail
        refine HK2.out.mono ?_
        rintro e W3 ⟨rfl, rfl⟩
        go_wp2_with fail
        go_roundw
        case rel =>
          refine ⟨j, by omega, by go_num, ?_, hB12⟩
          have e := HST.out
          rw [Nat.add_zero] at e
          rw [e]
          exact L2
        case measure => simp [intOf]
      · rw [hbit] at K2 hst
        have HST := Lib.hid hst
        have HK2 := Lib.hid K2
        have hl2 := HLEN.out (val es / 2 ^ (j + 1) + val es / 2 ^ (j + 1))
        have K3 := refTimes_any r2 _ _ _ az ms W2 L2 ((hLa.next hB).next hB2) ((hLm.next hB).next hB2) (by omega) (by omega) (by omega) h0
        rw [val_limbs, ← pm_succ] at K3
        have HK3 := Lib.hid K3
        clear K2 hst K3
        obtain ⟨P2, cp2, rfl, _⟩ := id L2
        go_wp2_with fail
        refine HK2.out.mono ?_
        rintro e W3 ⟨rfl, rfl⟩
        go_wp2_with fail
        refine HK3.out.mono ?_
        rintro e W4 ⟨r4, rfl, L4, hB4⟩
        go_wp2_with fail
        go_roundw
        case rel =>
          refine ⟨j, by omega, by go_num, ?_, hB12.trans (hB4.mono hB12.size)⟩
          rw [HST.out]
          exact L4
        case measure => simp [intOf]

end Go.Proofs.YtjnefacdindamaaGreatDoor
