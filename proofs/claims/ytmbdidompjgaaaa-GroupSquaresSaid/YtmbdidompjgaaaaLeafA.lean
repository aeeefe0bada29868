/- Several texts in one: each part says what it proves, and under which conditions. -/
import Derived.Test.YtmbdidompjgaaaaBase
/- What the small functions answer: limbAt, height, limb, cmp.Compare at uint64, small, equal. Conditions: the slices read as lists of limbs; lengths below 2^40. -/
namespace Go.Proofs.Ytmbdidompjgaaaa
open Go.RowKit Go.Shelf Num
set_option linter.unusedVariables false

theorem ret_u64 {a b : Nat} (h : a = b) : Ending.returned (.int .u64 (a : Int)) = .returned (.int .u64 (b : Int)) := by rw [h]
theorem ret_int {k : IntKind} {a b : Int} (h : a = b) : Ending.returned (.int k a) = .returned (.int k b) := by rw [h]

set_option maxHeartbeats 400000 in
theorem limbAt_any (n₀ : Nat) (v : Value) (xs : List Nat) (k : Nat) (w : World) (hL : Lim n₀ w v xs) :
    Calls Try.prog 65 #[v, .int .i64 (k : Int)] w fun e w' => e = .returned (.int .u64 ((lat xs k : Nat) : Int)) ∧ w = w' := by
  by_cases hk : k < xs.length
  · obtain ⟨b, off, cap, rfl, hc, hb, hcell⟩ := hL.at_ (by omega)
    have hck := hcell k hk
    clear hcell
    have hd : decide (k < xs.length) = true := by simpa using hk
    go_enter Try.func65, Try.ntmps65
    go_wp2
    go_ret
    exact ⟨rfl, rfl⟩
  · obtain ⟨A, cap, rfl, _, _, _, _⟩ := hL
    have hd : decide (k < xs.length) = false := by simpa using hk
    have he : lat xs k = 0 := lat_ge hk
    have HE := Lib.hid he
    clear he
    go_enter Try.func65, Try.ntmps65
    go_wp2
    go_ret
    exact ⟨by rw [HE.out]; rfl, rfl⟩

set_option maxHeartbeats 400000 in
theorem height_any (n₀ : Nat) (v : Value) (xs : List Nat) (w : World) (hL : Lim n₀ w v xs) (hlen : xs.length ≤ 2199023255552) :
    Calls Try.prog 58 #[v] w fun e w' => e = .returned (.int .i64 ((hgt xs : Nat) : Int)) ∧ w = w' := by
  obtain ⟨A, cap, rfl, hc, hn, ho, hr⟩ := hL
  go_enter Try.func58, Try.ntmps58
  go_wp2
  go_loop [3] (fun t => ∃ k : Nat, k ≤ xs.length ∧ t = .int .i64 k ∧ hgt (xs.take k) = hgt xs) (fun t => (intOf t).toNat)
  case atStart => exact ⟨xs.length, Nat.le_refl _, rfl, by rw [List.take_length]⟩
  case round =>
    obtain ⟨k, hk, rfl, hh⟩ := hrel
    have HH := Lib.hid hh
    clear hh
    rcases Nat.eq_zero_or_pos k with rfl | hp
    · have hz := hgt_end_zero xs HH.out
      have HZ := Lib.hid hz
      clear hz
      go_wp2
      go_ret
      exact ⟨ret_int (by rw [HZ.out]; rfl), rfl⟩
    · obtain ⟨j, rfl⟩ : ∃ j, k = j + 1 := ⟨k - 1, by omega⟩
      obtain ⟨b, off, rfl, hb, hcell⟩ := hr (by omega)
      have hck := hcell j (by omega)
      clear hcell hr
      by_cases hz : lat xs j = 0
      · have h1 := hgt_step xs j (by omega) hz
        have H1 := Lib.hid (h1.symm.trans HH.out)
        clear h1 HH
        have hcz : w.cell? ⟨b, off + j, none⟩ = some (.int .u64 0) := by rw [hck, hz]; rfl
        clear hck hz
        go_wp2
        go_round
        case rel => exact ⟨j, by omega, rfl, H1.out⟩
        case measure => simp [intOf]
      · have h1 := hgt_end xs j (by omega) HH.out hz
        have H1 := Lib.hid h1
        have hne : (((lat xs j : Nat) : Int) == 0) = false := by simpa using hz
        clear h1 HH hz
        go_wp2
        go_ret
        exact ⟨ret_int (by rw [H1.out]; rfl), rfl⟩

set_option maxHeartbeats 400000 in
/-- The document's limb: at i from 0 on. -/
theorem limb_any (n₀ : Nat) (v : Value) (xs : List Nat) (k : Nat) (w : World) (hL : Lim n₀ w v xs) :
    Calls Try.prog 35 #[v, .int .i64 (k : Int)] w fun e w' => e = .returned (.int .u64 ((lat xs k : Nat) : Int)) ∧ w = w' := by
  have h0 : decide ((k : Int) < 0) = false := by simp
  by_cases hk : k < xs.length
  · obtain ⟨b, off, cap, rfl, hc, hb, hcell⟩ := hL.at_ (by omega)
    have hck := hcell k hk
    clear hcell
    have hd : decide (xs.length ≤ k) = false := by simpa using hk
    go_enter Try.func35, Try.ntmps35
    go_wp2
    go_ret
    exact ⟨rfl, rfl⟩
  · obtain ⟨A, cap, rfl, _, _, _, _⟩ := hL
    have hd : decide (xs.length ≤ k) = true := by simpa using hk
    have HE := Lib.hid (lat_ge hk)
    go_enter Try.func35, Try.ntmps35
    go_wp2
    go_ret
    exact ⟨by rw [HE.out]; rfl, rfl⟩



set_option maxHeartbeats 400000 in
theorem isNaN_any (x : Nat) (w : World) : Calls Try.prog 66 #[.int .u64 (x : Int)] w fun e w' => e = .returned (.bool false) ∧ w = w' := by
  have h : ((x : Int) != (x : Int)) = false := by simp
  go_enter Try.func66, Try.ntmps66
  go_wp2
  go_ret
  exact ⟨rfl, rfl⟩

set_option maxHeartbeats 400000 in
theorem cmp_any (x y : Nat) (w : World) : Calls Try.prog 49 #[.int .u64 (x : Int), .int .u64 (y : Int)] w fun e w' => e = .returned (.int .i64 (cmpN x y)) ∧ w = w' := by
  by_cases h1 : x < y
  · have H := Lib.hid (cmpN_lt h1)
    have d1 : decide (x < y) = true := by simpa using h1
    go_enter Try.func49, Try.ntmps49
    go_wp2_with (go_at_call 66; refine (isNaN_any _ _).mono ?_; rintro e w' ⟨rfl, rfl⟩)
    go_ret
    exact ⟨ret_int (by rw [H.out]), rfl⟩
  · have d1 : decide (x < y) = false := by simpa using h1
    by_cases h2 : y < x
    · have H := Lib.hid (cmpN_gt h2)
      have d2 : decide (y < x) = true := by simpa using h2
      go_enter Try.func49, Try.ntmps49
      go_wp2_with (go_at_call 66; refine (isNaN_any _ _).mono ?_; rintro e w' ⟨rfl, rfl⟩)
      go_ret
      exact ⟨ret_int (by rw [H.out]), rfl⟩
    · obtain rfl : x = y := by omega
      have H := Lib.hid (cmpN_eq x)
      have d2 : decide (x < x) = false := by simp
      go_enter Try.func49, Try.ntmps49
      go_wp2_with (go_at_call 66; refine (isNaN_any _ _).mono ?_; rintro e w' ⟨rfl, rfl⟩)
      go_ret
      exact ⟨ret_int (by rw [H.out]), rfl⟩

end Go.Proofs.Ytmbdidompjgaaaa

/- The iterator over two numbers' limbs side by side (nat.sideBySide) by its contract: all pairs, the shorter one with noughts on top. Conditions: both slices read as limbs; lengths below 2^40; a round keeps what lay before the loop. -/
namespace Go.Proofs.Ytmbdidompjgaaaa
open Go.RowKit Go.Shelf Num
set_option linter.unusedVariables false
attribute [local go_sem] Oper.semAt_some

set_option maxHeartbeats 400000 in
theorem side_in (n : Nat) (A B : Option Addr) (na nb ca cb : Nat) (w : World) :
    CallsIn Fence.wide n Try.prog 48 #[.slice A na ca, .slice B nb cb] w fun e w' => e = .returned (.func (.func 64) #[] #[.pointer (some ⟨w.heap.size, 0, none⟩), .pointer (some ⟨w.heap.size + 1, 0, none⟩)]) ∧ w' = (w.alloc (.cells #[.slice A na ca] 25)).alloc (.cells #[.slice B nb cb] 25) := by
  refine callsIn_wide.2 ?_
  go_enter Try.func48, Try.ntmps48
  go_wp2
  go_ret
  exact ⟨rfl, rfl⟩

/-- A round has said 'go on', or 'no more'. -/
def Either (b : Bool) (p q : Prop) : Prop := (b = true ∧ p) ∨ (b = false ∧ q)

set_option maxRecDepth 100000 in
set_option maxHeartbeats 2000000 in
theorem side1_in (n : Nat) (hn : 1 ≤ n) (l Ba Bb n₀ : Nat) (A B : Option Addr) (na nb ca cb : Nat) (xs ys : List Nat) (hx : Ok xs) (hy0 : Ok ys) (hlx : xs.length ≤ 1099511627776) (hly : ys.length ≤ 1099511627776) (J Jx : List Pair → World → Prop)
    (W : World) (hJ : AbidesFrom W.heap.size J)
    (hY : ∀ pre (x : Pair) W, J pre W → pre.length < max xs.length ys.length → YieldAt Fence.wide (n - 1) Try.prog l #[.int .u64 (x.1.1 : Int), .int .u64 (x.1.2 : Int)] W fun e W' =>
      (e = .returned (.bool true) ∧ J (pre ++ [x]) W' ∧ KeepB n₀ Ba Bb W W') ∨ (e = .returned (.bool false) ∧ Jx (pre ++ [x]) W'))
    (hLa : Lim n₀ W (.slice A na ca) xs) (hLb : Lim n₀ W (.slice B nb cb) ys)
    (ha : W.cell? ⟨Ba, 0, none⟩ = some (.slice A na ca)) (hb : W.cell? ⟨Bb, 0, none⟩ = some (.slice B nb cb)) (h0 : J [] W) :
    CallsIn Fence.wide n Try.prog 64 #[.func (.yield l) #[] #[], .pointer (some ⟨Ba, 0, none⟩), .pointer (some ⟨Bb, 0, none⟩)] W fun e W' => (∃ v, e = .returned v) ∧
      ((∃ zs, zs = upto (pairAt xs ys hx hy0) (max xs.length ys.length) ∧ J zs W') ∨ (∃ pre, (∃ k, k ≤ max xs.length ys.length ∧ pre = upto (pairAt xs ys hx hy0) k) ∧ Jx pre W')) := by
  obtain rfl := hLa.len
  obtain rfl := hLb.len
  refine callsIn_of_wp Try.func64 rfl trivial ?_ rfl
  simp only [Try.ntmps64, List.size_toArray, List.length_cons, List.length_nil, Nat.reduceAdd, Nat.reduceSub, Array.replicate_succ, Array.replicate_zero, List.push_toArray, List.append_toArray, List.nil_append, List.cons_append]
  rcases Nat.lt_or_ge xs.length ys.length with hlg | hlg
  · have hmx : max xs.length ys.length = ys.length := by omega
    rw [hmx] at hY ⊢
    have hB9 : xs.length ≤ ys.length ∧ ys.length ≤ ys.length := by omega
    have hbd : ys.length ≤ 1099511627776 := by omega
    clear hmx hlx hly
    gi_wp2
    gi_loopw [10] (fun i wr => ∃ k : Nat, k ≤ ys.length ∧ i = .int .i64 k ∧ J (upto (pairAt xs ys hx hy0) k) wr ∧ KeepB n₀ Ba Bb W wr)
      (fun i _ => ys.length - (intOf i).toNat)
    case atStart => exact ⟨0, Nat.zero_le _, rfl, h0, KeepB.refl _ _ _ _⟩
    case round =>
      obtain ⟨k, hk, rfl, hJs, hnx⟩ := hrel
      by_cases hlt : k < ys.length
      · obtain ⟨fn, tmps, assign, body, hy, hR⟩ := hY _ (pairAt xs ys hx hy0 k) wr.drew (hJ _ _ _ none hJs (grown_drew wr none) (fun _ h => by cases h)) (by rw [upto_length]; exact hlt)
        have hR2 := hR.mono (R' := fun e W' => ∃ b, e = .returned (.bool b) ∧ Either b (J (upto (pairAt xs ys hx hy0) k ++ [pairAt xs ys hx hy0 k]) W' ∧ KeepB n₀ Ba Bb wr.drew W') (Jx (upto (pairAt xs ys hx hy0) k ++ [pairAt xs ys hx hy0 k]) W')) (by
          rintro e W' (⟨rfl, h1, h2⟩ | ⟨rfl, h1⟩)
          · exact ⟨true, rfl, .inl ⟨rfl, h1, h2⟩⟩
          · exact ⟨false, rfl, .inr ⟨rfl, h1⟩⟩)
        clear hY hR
        dsimp only [pairAt] at hy
        have hd : decide (k < ys.length) = true := by simpa using hlt
        have ha' := hnx.2.1.trans ha
        have hb' := hnx.2.2.trans hb
        have hA' := hLa.below hnx.1
        have hB' := hLb.below hnx.1
        have HN := Lib.hid hnx
        clear ha hb hLa hLb hnx
        gi_wp2
        gi_region_with (first | (refine ⟨trivial, ?_⟩; gi_at_call 65; refine (callsIn_wide.2 (limbAt_any n₀ _ _ k _ (by first | exact hA' | exact hB'))).mono ?_; rintro e w' ⟨rfl, rfl⟩) | (refine hR2.mono ?_; rintro e W3 ⟨b, rfl, hE⟩))
        all_goals
          rcases hE with ⟨rfl, hJ3, hk3⟩ | ⟨rfl, hJx3⟩
          · gi_wp2
            go_roundw
            case rel => exact ⟨k + 1, by omega, by go_num, by rw [upto_succ]; exact hJ3, HN.out.trans (KeepB.drew.trans hk3)⟩
            case measure => simp [intOf]; omega
          · gi_wp2
            refine bodyPost_ret (results_none rfl _ _ _) rfl ?_
            exact ⟨⟨_, rfl⟩, .inr ⟨_, ⟨k + 1, by omega, (upto_succ _ _).symm⟩, hJx3⟩⟩
      · obtain rfl : k = ys.length := by omega
        have hd : decide (ys.length < ys.length) = false := by simp
        gi_wp2
        go_end0
        exact ⟨⟨_, rfl⟩, .inl ⟨_, rfl, hJs⟩⟩
  · have hmx : max xs.length ys.length = xs.length := by omega
    rw [hmx] at hY ⊢
    have hB9 : xs.length ≤ xs.length ∧ ys.length ≤ xs.length := by omega
    have hbd : xs.length ≤ 1099511627776 := by omega
    clear hmx hlx hly
    gi_wp2
    gi_loopw [10] (fun i wr => ∃ k : Nat, k ≤ xs.length ∧ i = .int .i64 k ∧ J (upto (pairAt xs ys hx hy0) k) wr ∧ KeepB n₀ Ba Bb W wr)
      (fun i _ => xs.length - (intOf i).toNat)
    case atStart => exact ⟨0, Nat.zero_le _, rfl, h0, KeepB.refl _ _ _ _⟩
    case round =>
      obtain ⟨k, hk, rfl, hJs, hnx⟩ := hrel
      by_cases hlt : k < xs.length
      · obtain ⟨fn, tmps, assign, body, hy, hR⟩ := hY _ (pairAt xs ys hx hy0 k) wr.drew (hJ _ _ _ none hJs (grown_drew wr none) (fun _ h => by cases h)) (by rw [upto_length]; exact hlt)
        have hR2 := hR.mono (R' := fun e W' => ∃ b, e = .returned (.bool b) ∧ Either b (J (upto (pairAt xs ys hx hy0) k ++ [pairAt xs ys hx hy0 k]) W' ∧ KeepB n₀ Ba Bb wr.drew W') (Jx (upto (pairAt xs ys hx hy0) k ++ [pairAt xs ys hx hy0 k]) W')) (by
          rintro e W' (⟨rfl, h1, h2⟩ | ⟨rfl, h1⟩)
          · exact ⟨true, rfl, .inl ⟨rfl, h1, h2⟩⟩
          · exact ⟨false, rfl, .inr ⟨rfl, h1⟩⟩)
        clear hY hR
        dsimp only [pairAt] at hy
        have hd : decide (k < xs.length) = true := by simpa using hlt
        have ha' := hnx.2.1.trans ha
        have hb' := hnx.2.2.trans hb
        have hA' := hLa.below hnx.1
        have hB' := hLb.below hnx.1
        have HN := Lib.hid hnx
        clear ha hb hLa hLb hnx
        gi_wp2
        gi_region_with (first | (refine ⟨trivial, ?_⟩; gi_at_call 65; refine (callsIn_wide.2 (limbAt_any n₀ _ _ k _ (by first | exact hA' | exact hB'))).mono ?_; rintro e w' ⟨rfl, rfl⟩) | (refine hR2.mono ?_; rintro e W3 ⟨b, rfl, hE⟩))
        all_goals
          rcases hE with ⟨rfl, hJ3, hk3⟩ | ⟨rfl, hJx3⟩
          · gi_wp2
            go_roundw
            case rel => exact ⟨k + 1, by omega, by go_num, by rw [upto_succ]; exact hJ3, HN.out.trans (KeepB.drew.trans hk3)⟩
            case measure => simp [intOf]; omega
          · gi_wp2
            refine bodyPost_ret (results_none rfl _ _ _) rfl ?_
            exact ⟨⟨_, rfl⟩, .inr ⟨_, ⟨k + 1, by omega, (upto_succ _ _).symm⟩, hJx3⟩⟩
      · obtain rfl : k = xs.length := by omega
        have hd : decide (xs.length < xs.length) = false := by simp
        gi_wp2
        go_end0
        exact ⟨⟨_, rfl⟩, .inl ⟨_, rfl, hJs⟩⟩

/-- What sideBySide hands back goes through all pairs, or stops behind some. -/
theorem side_stops (n : Nat) (hn : 1 ≤ n) (Ba Bb n₀ : Nat) (A B : Option Addr) (na nb ca cb : Nat) (xs ys : List Nat) (hx : Ok xs) (hy0 : Ok ys) (hlx : xs.length ≤ 1099511627776) (hly : ys.length ≤ 1099511627776) (w : World)
    (hn₀ : n₀ ≤ w.heap.size) (hBa : Ba < w.heap.size) (hBb : Bb < w.heap.size) (hLa : Lim n₀ w (.slice A na ca) xs) (hLb : Lim n₀ w (.slice B nb cb) ys)
    (ha : w.cell? ⟨Ba, 0, none⟩ = some (.slice A na ca)) (hb : w.cell? ⟨Bb, 0, none⟩ = some (.slice B nb cb)) :
    SeqStopsK Fence.wide n Try.prog 64 #[.pointer (some ⟨Ba, 0, none⟩), .pointer (some ⟨Bb, 0, none⟩)] (fun x : Pair => #[.int .u64 (x.1.1 : Int), .int .u64 (x.1.2 : Int)]) (KeepB n₀ Ba Bb)
      (fun zs => zs = upto (pairAt xs ys hx hy0) (max xs.length ys.length)) (fun pre => ∃ k, k ≤ max xs.length ys.length ∧ pre = upto (pairAt xs ys hx hy0) k) (max xs.length ys.length) w := fun l J Jx W hW hJ _ hY h0 =>
  side1_in n hn l Ba Bb n₀ A B na nb ca cb xs ys hx hy0 hlx hly J Jx W hJ hY (hLa.below (hW.mono hn₀)) (hLb.below (hW.mono hn₀)) ((hW.cell (p := ⟨Ba, 0, none⟩) hBa).trans ha) ((hW.cell (p := ⟨Bb, 0, none⟩) hBb).trans hb) h0

end Go.Proofs.Ytmbdidompjgaaaa

/- nat.Compare answers -1, 0 or 1 as the first number is less, the same or more, and leaves memory below as it was. Conditions: both slices read as limbs; lengths below 2^40. -/
namespace Go.Proofs.Ytmbdidompjgaaaa
open Go.RowKit Go.Shelf Num
set_option linter.unusedVariables false
attribute [local go_sem] Oper.semAt_some

set_option maxRecDepth 100000 in
set_option maxHeartbeats 2000000 in
theorem compare_in (A B : Option Addr) (na nb ca cb : Nat) (xs ys : List Nat) (w : World) (hLa : Lim w.heap.size w (.slice A na ca) xs) (hLb : Lim w.heap.size w (.slice B nb cb) ys) (hlx : xs.length ≤ 1099511627776) (hly : ys.length ≤ 1099511627776) :
    CallsIn Fence.wide 5 Try.prog 28 #[.slice A na ca, .slice B nb cb] w fun e W' => e = .returned (.int .i64 (cmpN (val xs) (val ys))) ∧ Below w.heap.size w W' := by
  have hx := hLa.ok
  have hy := hLb.ok
  refine callsIn_of_wp_marks Try.func28 rfl trivial ?_ rfl
  simp only [Try.ntmps28, List.size_toArray, List.length_cons, List.length_nil, Nat.reduceAdd, Nat.reduceSub, Array.replicate_succ, Array.replicate_zero, List.push_toArray, List.append_toArray, List.nil_append, List.cons_append]
  gi_wp2_with (refine ⟨trivial, ?_⟩; gi_at_call 48; refine (side_in _ _ _ _ _ _ _ _).mono ?_; rintro e w' ⟨rfl, rfl⟩)
  have bO := Boxed.new w 3 (.int .i64 0)
  have bA := Boxed.new (w.alloc (.cells #[.int .i64 0] 3)) 25 (.slice A na ca)
  rw [World.size_alloc] at bA
  have bB := Boxed.new ((w.alloc (.cells #[.int .i64 0] 3)).alloc (.cells #[.slice A na ca] 25)) 25 (.slice B nb cb)
  rw [World.size_alloc, World.size_alloc] at bB
  have hB0 : Below w.heap.size w (((w.alloc (.cells #[.int .i64 0] 3)).alloc (.cells #[.slice A na ca] 25)).alloc (.cells #[.slice B nb cb] 25)) := (((Below.refl _ w).alloc (Nat.le_refl _) _).alloc (by simp) _).alloc (by simp; omega) _
  have bO' := (bO.alloc (.cells #[.slice A na ca] 25)).alloc (.cells #[.slice B nb cb] 25)
  have bA' := bA.alloc (.cells #[.slice B nb cb] 25)
  refine wpIn_rangeFunc_ownG rfl (by omega) (gf := 64) (lb := #[.pointer (some ⟨w.heap.size + 1, 0, none⟩), .pointer (some ⟨w.heap.size + 1 + 1, 0, none⟩)]) rfl trivial (enters_of Try.func64 (by kernel_rfl) rfl)
    (side_stops (5 - 1) (by omega) (w.heap.size + 1) (w.heap.size + 1 + 1) w.heap.size A B na nb ca cb xs ys hx hy hlx hly _ hB0.size (by simp) (by simp) (hLa.below hB0) (hLb.below hB0) bA'.cell bB.cell)
    KeepB.trans (keepB_b hB0.size (by simp) (by simp)) (Below.refl _ _) (fun _ => rfl)
    (fun pre W => (Boxed W w.heap.size 3 (.int .i64 (cmpF pre)) ∧ Boxed W (w.heap.size + 1) 25 (.slice A na ca) ∧ Boxed W (w.heap.size + 1 + 1) 25 (.slice B nb cb)) ∧ Below w.heap.size w W)
    (fun _ _ _ => False)
    (OwnFrom.and (OwnFrom.and (Own.from (boxed_own _ _ _) _) (OwnFrom.and (Own.from (boxed_own _ _ (fun _ => _)) _) (Own.from (boxed_own _ _ (fun _ => _)) _))) (ownFrom_below (Nat.le_refl _) (by simp; omega)))
    (fun _ _ _ _ _ hs _ _ => hs)
    ⟨⟨bO', bA', bB⟩, hB0⟩
    (fun x => { tmps := #[.slice A na ca, .slice B nb cb, undef, undef, .int .i64 0, .pointer (some ⟨w.heap.size, 0, none⟩), .int .u64 (x.1.1 : Int), .int .u64 (x.1.2 : Int), undef, .slice A na ca, .slice B nb cb,
      .func (.func 64) #[] #[.pointer (some ⟨w.heap.size + 1, 0, none⟩), .pointer (some ⟨w.heap.size + 1 + 1, 0, none⟩)], .int .u64 (x.1.1 : Int), .int .u64 (x.1.2 : Int), undef, undef, undef, undef, undef, undef, undef], defers := [] }) ?assign ?body ?done ?stop
  case assign =>
    intro l x W K hK
    gi_wp2
    exact hK
  case body =>
    rintro l pre x W ⟨⟨hO, hA, hB⟩, hW⟩ _
    have hc := hO.cell
    have hf := hO.frozen
    by_cases h0 : cmpN x.1.1 x.1.2 = 0
    · have hd : (cmpN x.1.1 x.1.2 != 0) = false := by simp [h0]
      have H0 := Lib.hid h0
      clear h0
      gi_wp2_with (refine ⟨trivial, ?_⟩; gi_at_call 49; refine (CallsIn.inRound l (callsIn_wide.2 (cmp_any _ _ _))).mono ?_; rintro e w' ⟨rfl, rfl⟩)
      exact ⟨KeepsFrom.refl _ _, KeepB.refl _ _ _ _, ⟨by rw [cmpF_snoc, if_pos H0.out]; exact hO, hA, hB⟩, hW⟩
    · have hd : (cmpN x.1.1 x.1.2 != 0) = true := by simp [h0]
      have H0 := Lib.hid h0
      clear h0
      gi_wp2_with (refine ⟨trivial, ?_⟩; gi_at_call 49; refine (CallsIn.inRound l (callsIn_wide.2 (cmp_any _ _ _))).mono ?_; rintro e w' ⟨rfl, rfl⟩)
      have hA2 := hA.other (B' := w.heap.size) (by omega) (.int .i64 (cmpN x.1.1 x.1.2))
      have hB2 := hB.other (B' := w.heap.size) (by omega) (.int .i64 (cmpN x.1.1 x.1.2))
      exact ⟨(KeepsOthers.setCell _ _ _).from _, ⟨(Below.refl w.heap.size W).setCell (p := ⟨w.heap.size, 0, none⟩) (Nat.le_refl _) _, hA2.cell.trans hA.cell.symm, hB2.cell.trans hB.cell.symm⟩,
        ⟨by rw [cmpF_snoc, if_neg H0.out]; exact hO.set _, hA2, hB2⟩, hW.setCell (p := ⟨w.heap.size, 0, none⟩) (Nat.le_refl _) _⟩
  case done =>
    rintro D zs W hD rfl ⟨⟨hO, _, _⟩, hW⟩ hK
    have hc := hO.cell
    gi_wp2
    refine ⟨by simp, .inl ⟨_, _, rfl, run_takeDeferred hK, ?_⟩⟩
    refine ⟨_, results_tmp rfl _ _ _, ?_, hW.trans (belowK_b (w := w) (Nat.le_refl _) W D _ _ (by simp at hD; omega) hK rfl rfl)⟩
    rw [← av_upto xs ys hx hy (max xs.length ys.length) (by omega), ← bv_upto xs ys hx hy (max xs.length ys.length) (by omega), ← cmpF_total]
    rfl
  case stop =>
    rintro D c pre W _ _ h _
    exact h.elim

end Go.Proofs.Ytmbdidompjgaaaa
