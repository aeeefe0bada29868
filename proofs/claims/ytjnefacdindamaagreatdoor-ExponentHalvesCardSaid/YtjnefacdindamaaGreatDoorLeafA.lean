/- Several texts in one: each part says what it proves, and under which conditions. -/
import Derived.Test.YtjnefacdindamaaGreatDoorBase
import Derived.Sort.QuietIn

/- What the small functions answer: limbAt, height, limb, cmp.Compare at uint64, small, equal. Conditions: the slices read as lists of limbs; lengths below 2^40. -/
namespace Go.Proofs.YtjnefacdindamaaGreatDoor
open Go.RowKit Go.Shelf Num
set_option linter.unusedVariables false
set_option maxRecDepth 100000

theorem ret_u64 {a b : Nat} (h : a = b) : Ending.returned (.int .u64 (a : Int)) = .returned (.int .u64 (b : Int)) := by rw [h]
theorem ret_int {k : IntKind} {a b : Int} (h : a = b) : Ending.returned (.int k a) = .returned (.int k b) := by rw [h]

set_option maxHeartbeats 400000 in
theorem limbAt_any (n₀ : Nat) (v : Value) (xs : List Nat) (k : Nat) (w : World) (hL : Lim n₀ w v xs) :
    Calls Tryz.prog 109 #[v, .int .i64 (k : Int)] w fun e w' => e = .returned (.int .u64 ((lat xs k : Nat) : Int)) ∧ w = w' := by
  by_cases hk : k < xs.length
  · obtain ⟨b, off, cap, rfl, hc, hb, hcell⟩ := hL.at_ (by omega)
    have hck := hcell k hk
    clear hcell
    have hd : decide (k < xs.length) = true := by simpa using hk
    go_enter Tryz.func109, Tryz.ntmps109
    go_wp2
    go_ret
    exact ⟨rfl, rfl⟩
  · obtain ⟨A, cap, rfl, _, _, _, _⟩ := hL
    have hd : decide (k < xs.length) = false := by simpa using hk
    have he : lat xs k = 0 := lat_ge hk
    have HE := Lib.hid he
    clear he
    go_enter Tryz.func109, Tryz.ntmps109
    go_wp2
    go_ret
    exact ⟨by rw [HE.out]; rfl, rfl⟩

set_option maxHeartbeats 400000 in
theorem height_any (n₀ : Nat) (v : Value) (xs : List Nat) (w : World) (hL : Lim n₀ w v xs) (hlen : xs.length ≤ 2199023255552) :
    Calls Tryz.prog 106 #[v] w fun e w' => e = .returned (.int .i64 ((hgt xs : Nat) : Int)) ∧ w = w' := by
  obtain ⟨A, cap, rfl, hc, hn, ho, hr⟩ := hL
  go_enter Tryz.func106, Tryz.ntmps106
  go_wp2
  go_loop [3] (fun t => ∃ k : Nat, k ≤ xs.length ∧ t = .int .i64 k ∧ hgt (xs.take k) = hgt xs) (fun t => (intOf t).toNat)
  case atStart => exact ⟨xs.length, Nat.le_refl _, rfl, by rw [List.take_length]⟩
  case round =>
    obtain ⟨k, hk, rfl, hh⟩ := hrel
    have HH := Lib.hid hh
    clear hh
    rcases Nat.eq_zero_or_pos k with rfl | hp
    · have hz := hgt_end_zero xs HH.out
      have HZ := Lib.hid hz
      clear hz
      go_wp2
      go_ret
      exact ⟨ret_int (by rw [HZ.out]; rfl), rfl⟩
    · obtain ⟨j, rfl⟩ : ∃ j, k = j + 1 := ⟨k - 1, by omega⟩
      obtain ⟨b, off, rfl, hb, hcell⟩ := hr (by omega)
      have hck := hcell j (by omega)
      clear hcell hr
      by_cases hz : lat xs j = 0
      · have h1 := hgt_step xs j (by omega) hz
        have H1 := Lib.hid (h1.symm.trans HH.out)
        clear h1 HH
        have hcz : w.cell? ⟨b, off + j, none⟩ = some (.int .u64 0) := by rw [hck, hz]; rfl
        clear hck hz
        go_wp2
        go_round
        case rel => exact ⟨j, by omega, rfl, H1.out⟩
        case measure => simp [intOf]
      · have h1 := hgt_end xs j (by omega) HH.out hz
        have H1 := Lib.hid h1
        have hne : (((lat xs j : Nat) : Int) == 0) = false := by simpa using hz
        clear h1 HH hz
        go_wp2
        go_ret
        exact ⟨ret_int (by rw [H1.out]; rfl), rfl⟩

set_option maxHeartbeats 400000 in
/-- The document's limb: at i from 0 on. -/
theorem limb_any (n₀ : Nat) (v : Value) (xs : List Nat) (k : Nat) (w : World) (hL : Lim n₀ w v xs) :
    Calls Tryz.prog 60 #[v, .int .i64 (k : Int)] w fun e w' => e = .returned (.int .u64 ((lat xs k : Nat) : Int)) ∧ w = w' := by
  have h0 : decide ((k : Int) < 0) = false := by simp
  by_cases hk : k < xs.length
  · obtain ⟨b, off, cap, rfl, hc, hb, hcell⟩ := hL.at_ (by omega)
    have hck := hcell k hk
    clear hcell
    have hd : decide (xs.length ≤ k) = false := by simpa using hk
    go_enter Tryz.func60, Tryz.ntmps60
    go_wp2
    go_ret
    exact ⟨rfl, rfl⟩
  · obtain ⟨A, cap, rfl, _, _, _, _⟩ := hL
    have hd : decide (xs.length ≤ k) = true := by simpa using hk
    have HE := Lib.hid (lat_ge hk)
    go_enter Tryz.func60, Tryz.ntmps60
    go_wp2
    go_ret
    exact ⟨by rw [HE.out]; rfl, rfl⟩



set_option maxHeartbeats 400000 in
theorem isNaN_any (x : Nat) (w : World) : Calls Tryz.prog 137 #[.int .u64 (x : Int)] w fun e w' => e = .returned (.bool false) ∧ w = w' := by
  have h : ((x : Int) != (x : Int)) = false := by simp
  go_enter Tryz.func137, Tryz.ntmps137
  go_wp2
  go_ret
  exact ⟨rfl, rfl⟩

set_option maxHeartbeats 400000 in
theorem cmp_any (x y : Nat) (w : World) : Calls Tryz.prog 131 #[.int .u64 (x : Int), .int .u64 (y : Int)] w fun e w' => e = .returned (.int .i64 (cmpN x y)) ∧ w = w' := by
  by_cases h1 : x < y
  · have H := Lib.hid (cmpN_lt h1)
    have d1 : decide (x < y) = true := by simpa using h1
    go_enter Tryz.func131, Tryz.ntmps131
    go_wp2_with (go_at_call 137; refine (isNaN_any _ _).mono ?_; rintro e w' ⟨rfl, rfl⟩)
    go_ret
    exact ⟨ret_int (by rw [H.out]), rfl⟩
  · have d1 : decide (x < y) = false := by simpa using h1
    by_cases h2 : y < x
    · have H := Lib.hid (cmpN_gt h2)
      have d2 : decide (y < x) = true := by simpa using h2
      go_enter Tryz.func131, Tryz.ntmps131
      go_wp2_with (go_at_call 137; refine (isNaN_any _ _).mono ?_; rintro e w' ⟨rfl, rfl⟩)
      go_ret
      exact ⟨ret_int (by rw [H.out]), rfl⟩
    · obtain rfl : x = y := by omega
      have H := Lib.hid (cmpN_eq x)
      have d2 : decide (x < x) = false := by simp
      go_enter Tryz.func131, Tryz.ntmps131
      go_wp2_with (go_at_call 137; refine (isNaN_any _ _).mono ?_; rintro e w' ⟨rfl, rfl⟩)
      go_ret
      exact ⟨ret_int (by rw [H.out]), rfl⟩

end Go.Proofs.YtjnefacdindamaaGreatDoor


/- The iterator over two numbers' limbs side by side (nat.sideBySide) by its contract: all pairs, the shorter one with noughts on top. Conditions: both slices read as limbs; lengths below 2^40; a round keeps what lay before the loop. -/
namespace Go.Proofs.YtjnefacdindamaaGreatDoor
open Go.RowKit Go.Shelf Num
set_option linter.unusedVariables false
set_option maxRecDepth 100000
attribute [local go_sem] Oper.semAt_some

set_option maxHeartbeats 400000 in
theorem side_in (n : Nat) (A B : Option Addr) (na nb ca cb : Nat) (w : World) :
    CallsIn Fence.wide n Tryz.prog 105 #[.slice A na ca, .slice B nb cb] w fun e w' => e = .returned (.func (.func 119) #[] #[.pointer (some ⟨w.heap.size, 0, none⟩), .pointer (some ⟨w.heap.size + 1, 0, none⟩)]) ∧ w' = (w.alloc (.cells #[.slice A na ca] 69)).alloc (.cells #[.slice B nb cb] 69) := by
  refine callsIn_wide.2 ?_
  go_enter Tryz.func105, Tryz.ntmps105
  go_wp2
  go_ret
  exact ⟨rfl, rfl⟩

/-- A round has said 'go on', or 'no more'. -/
def Either (b : Bool) (p q : Prop) : Prop := (b = true ∧ p) ∨ (b = false ∧ q)

set_option maxRecDepth 100000 in
set_option maxHeartbeats 2000000 in
theorem side1_in (n : Nat) (hn : 1 ≤ n) (l Ba Bb n₀ : Nat) (A B : Option Addr) (na nb ca cb : Nat) (xs ys : List Nat) (hx : Ok xs) (hy0 : Ok ys) (hlx : xs.length ≤ 1099511627776) (hly : ys.length ≤ 1099511627776) (J Jx : List Pair → World → Prop)
    (W : World) (hJ : AbidesFrom W.heap.size J)
    (hY : ∀ pre (x : Pair) W, J pre W → pre.length < max xs.length ys.length → YieldAt Fence.wide (n - 1) Tryz.prog l #[.int .u64 (x.1.1 : Int), .int .u64 (x.1.2 : Int)] W fun e W' =>
      (e = .returned (.bool true) ∧ J (pre ++ [x]) W' ∧ KeepB n₀ Ba Bb W W') ∨ (e = .returned (.bool false) ∧ Jx (pre ++ [x]) W'))
    (hLa : Lim n₀ W (.slice A na ca) xs) (hLb : Lim n₀ W (.slice B nb cb) ys)
    (ha : W.cell? ⟨Ba, 0, none⟩ = some (.slice A na ca)) (hb : W.cell? ⟨Bb, 0, none⟩ = some (.slice B nb cb)) (h0 : J [] W) :
    CallsIn Fence.wide n Tryz.prog 119 #[.func (.yield l) #[] #[], .pointer (some ⟨Ba, 0, none⟩), .pointer (some ⟨Bb, 0, none⟩)] W fun e W' => (∃ v, e = .returned v) ∧
      ((∃ zs, zs = upto (pairAt xs ys hx hy0) (max xs.length ys.length) ∧ J zs W') ∨ (∃ pre, (∃ k, k ≤ max xs.length ys.length ∧ pre = upto (pairAt xs ys hx hy0) k) ∧ Jx pre W')) := by
  obtain rfl := hLa.len
  obtain rfl := hLb.len
  refine callsIn_of_wp Tryz.func119 rfl trivial ?_ rfl
  simp only [Tryz.ntmps119, List.size_toArray, List.length_cons, List.length_nil, Nat.reduceAdd, Nat.reduceSub, Array.replicate_succ, Array.replicate_zero, List.push_toArray, List.append_toArray, List.nil_append, List.cons_append]
  rcases Nat.lt_or_ge xs.length ys.length with hlg | hlg
  · have hmx : max xs.length ys.length = ys.length := by omega
    rw [hmx] at hY ⊢
    have hB9 : xs.length ≤ ys.length ∧ ys.length ≤ ys.length := by omega
    have hbd : ys.length ≤ 1099511627776 := by omega
    clear hmx hlx hly
    gi_wp2
    gi_loopw [10] (fun i wr => ∃ k : Nat, k ≤ ys.length ∧ i = .int .i64 k ∧ J (upto (pairAt xs ys hx hy0) k) wr ∧ KeepB n₀ Ba Bb W wr)
      (fun i _ => ys.length - (intOf i).toNat)
    case atStart => exact ⟨0, Nat.zero_le _, rfl, h0, KeepB.refl _ _ _ _⟩
    case round =>
      obtain ⟨k, hk, rfl, hJs, hnx⟩ := hrel
      by_cases hlt : k < ys.length
      · obtain ⟨fn, tmps, assign, body, hy, hR⟩ := hY _ (pairAt xs ys hx hy0 k) wr.drew (hJ _ _ _ none hJs (grown_drew wr none) (fun _ h => by cases h)) (by rw [upto_length]; exact hlt)
        have hR2 := hR.mono (R' := fun e W' => ∃ b, e = .returned (.bool b) ∧ Either b (J (upto (pairAt xs ys hx hy0) k ++ [pairAt xs ys hx hy0 k]) W' ∧ KeepB n₀ Ba Bb wr.drew W') (Jx (upto (pairAt xs ys hx hy0) k ++ [pairAt xs ys hx hy0 k]) W')) (by
          rintro e W' (⟨rfl, h1, h2⟩ | ⟨rfl, h1⟩)
          · exact ⟨true, rfl, .inl ⟨rfl, h1, h2⟩⟩
          · exact ⟨false, rfl, .inr ⟨rfl, h1⟩⟩)
        clear hY hR
        dsimp only [pairAt] at hy
        have hd : decide (k < ys.length) = true := by simpa using hlt
        have ha' := hnx.2.1.trans ha
        have hb' := hnx.2.2.trans hb
        have hA' := hLa.below hnx.1
        have hB' := hLb.below hnx.1
        have HN := Lib.hid hnx
        clear ha hb hLa hLb hnx
        gi_wp2
        gi_region_with (first | (refine ⟨trivial, ?_⟩; gi_at_call 109; refine (callsIn_wide.2 (limbAt_any n₀ _ _ k _ (by first | exact hA' | exact hB'))).mono ?_; rintro e w' ⟨rfl, rfl⟩) | (refine hR2.mono ?_; rintro e W3 ⟨b, rfl, hE⟩))
        all_goals
          rcases hE with ⟨rfl, hJ3, hk3⟩ | ⟨rfl, hJx3⟩
          · gi_wp2
            go_roundw
            case rel => exact ⟨k + 1, by omega, by go_num, by rw [upto_succ]; exact hJ3, HN.out.trans (KeepB.drew.trans hk3)⟩
            case measure => simp [intOf]; omega
          · gi_wp2
            refine bodyPost_ret (results_none rfl _ _ _) rfl ?_
            exact ⟨⟨_, rfl⟩, .inr ⟨_, ⟨k + 1, by omega, (upto_succ _ _).symm⟩, hJx3⟩⟩
      · obtain rfl : k = ys.length := by omega
        have hd : decide (ys.length < ys.length) = false := by simp
        gi_wp2
        go_end0
        exact ⟨⟨_, rfl⟩, .inl ⟨_, rfl, hJs⟩⟩
  · have hmx : max xs.length ys.length = xs.length := by omega
    rw [hmx] at hY ⊢
    have hB9 : xs.length ≤ xs.length ∧ ys.length ≤ xs.length := by omega
    have hbd : xs.length ≤ 1099511627776 := by omega
    clear hmx hlx hly
    gi_wp2
    gi_loopw [10] (fun i wr => ∃ k : Nat, k ≤ xs.length ∧ i = .int .i64 k ∧ J (upto (pairAt xs ys hx hy0) k) wr ∧ KeepB n₀ Ba Bb W wr)
      (fun i _ => xs.length - (intOf i).toNat)
    case atStart => exact ⟨0, Nat.zero_le _, rfl, h0, KeepB.refl _ _ _ _⟩
    case round =>
      obtain ⟨k, hk, rfl, hJs, hnx⟩ := hrel
      by_cases hlt : k < xs.length
      · obtain ⟨fn, tmps, assign, body, hy, hR⟩ := hY _ (pairAt xs ys hx hy0 k) wr.drew (hJ _ _ _ none hJs (grown_drew wr none) (fun _ h => by cases h)) (by rw [upto_length]; exact hlt)
        have hR2 := hR.mono (R' := fun e W' => ∃ b, e = .returned (.bool b) ∧ Either b (J (upto (pairAt xs ys hx hy0) k ++ [pairAt xs ys hx hy0 k]) W' ∧ KeepB n₀ Ba Bb wr.drew W') (Jx (upto (pairAt xs ys hx hy0) k ++ [pairAt xs ys hx hy0 k]) W')) (by
          rintro e W' (⟨rfl, h1, h2⟩ | ⟨rfl, h1⟩)
          · exact ⟨true, rfl, .inl ⟨rfl, h1, h2⟩⟩
          · exact ⟨false, rfl, .inr ⟨rfl, h1⟩⟩)
        clear hY hR
        dsimp only [pairAt] at hy
        have hd : decide (k < xs.length) = true := by simpa using hlt
        have ha' := hnx.2.1.trans ha
        have hb' := hnx.2.2.trans hb
        have hA' := hLa.below hnx.1
        have hB' := hLb.below hnx.1
        have HN := Lib.hid hnx
        clear ha hb hLa hLb hnx
        gi_wp2
        gi_region_with (first | (refine ⟨trivial, ?_⟩; gi_at_call 109; refine (callsIn_wide.2 (limbAt_any n₀ _ _ k _ (by first | exact hA' | exact hB'))).mono ?_; rintro e w' ⟨rfl, rfl⟩) | (refine hR2.mono ?_; rintro e W3 ⟨b, rfl, hE⟩))
        all_goals
          rcases hE with ⟨rfl, hJ3, hk3⟩ | ⟨rfl, hJx3⟩
          · gi_wp2
            go_roundw
            case rel => exact ⟨k + 1, by omega, by go_num, by rw [upto_succ]; exact hJ3, HN.out.trans (KeepB.drew.trans hk3)⟩
            case measure => simp [intOf]; omega
          · gi_wp2
            refine bodyPost_ret (results_none rfl _ _ _) rfl ?_
            exact ⟨⟨_, rfl⟩, .inr ⟨_, ⟨k + 1, by omega, (upto_succ _ _).symm⟩, hJx3⟩⟩
      · obtain rfl : k = xs.length := by omega
        have hd : decide (xs.length < xs.length) = false := by simp
        gi_wp2
        go_end0
        exact ⟨⟨_, rfl⟩, .inl ⟨_, rfl, hJs⟩⟩

/-- What sideBySide hands back goes through all pairs, or stops behind some. -/
theorem side_stops (n : Nat) (hn : 1 ≤ n) (Ba Bb n₀ : Nat) (A B : Option Addr) (na nb ca cb : Nat) (xs ys : List Nat) (hx : Ok xs) (hy0 : Ok ys) (hlx : xs.length ≤ 1099511627776) (hly : ys.length ≤ 1099511627776) (w : World)
    (hn₀ : n₀ ≤ w.heap.size) (hBa : Ba < w.heap.size) (hBb : Bb < w.heap.size) (hLa : Lim n₀ w (.slice A na ca) xs) (hLb : Lim n₀ w (.slice B nb cb) ys)
    (ha : w.cell? ⟨Ba, 0, none⟩ = some (.slice A na ca)) (hb : w.cell? ⟨Bb, 0, none⟩ = some (.slice B nb cb)) :
    SeqStopsK Fence.wide n Tryz.prog 119 #[.pointer (some ⟨Ba, 0, none⟩), .pointer (some ⟨Bb, 0, none⟩)] (fun x : Pair => #[.int .u64 (x.1.1 : Int), .int .u64 (x.1.2 : Int)]) (KeepB n₀ Ba Bb)
      (fun zs => zs = upto (pairAt xs ys hx hy0) (max xs.length ys.length)) (fun pre => ∃ k, k ≤ max xs.length ys.length ∧ pre = upto (pairAt xs ys hx hy0) k) (max xs.length ys.length) w := fun l J Jx W hW hJ _ hY h0 =>
  side1_in n hn l Ba Bb n₀ A B na nb ca cb xs ys hx hy0 hlx hly J Jx W hJ hY (hLa.below (hW.mono hn₀)) (hLb.below (hW.mono hn₀)) ((hW.cell (p := ⟨Ba, 0, none⟩) hBa).trans ha) ((hW.cell (p := ⟨Bb, 0, none⟩) hBb).trans hb) h0

end Go.Proofs.YtjnefacdindamaaGreatDoor


/- nat.Compare answers -1, 0 or 1 as the first number is less, the same or more, and leaves memory below as it was. Conditions: both slices read as limbs; lengths below 2^40. -/
namespace Go.Proofs.YtjnefacdindamaaGreatDoor
open Go.RowKit Go.Shelf Num
set_option linter.unusedVariables false
set_option maxRecDepth 100000
attribute [local go_sem] Oper.semAt_some

set_option maxRecDepth 100000 in
set_option maxHeartbeats 2000000 in
theorem compare_in (A B : Option Addr) (na nb ca cb : Nat) (xs ys : List Nat) (w : World) (hLa : Lim w.heap.size w (.slice A na ca) xs) (hLb : Lim w.heap.size w (.slice B nb cb) ys) (hlx : xs.length ≤ 1099511627776) (hly : ys.length ≤ 1099511627776) :
    CallsIn Fence.wide 5 Tryz.prog 120 #[.slice A na ca, .slice B nb cb] w fun e W' => e = .returned (.int .i64 (cmpN (val xs) (val ys))) ∧ Below w.heap.size w W' := by
  have hx := hLa.ok
  have hy := hLb.ok
  refine callsIn_of_wp_marks Tryz.func120 rfl trivial ?_ rfl
  simp only [Tryz.ntmps120, List.size_toArray, List.length_cons, List.length_nil, Nat.reduceAdd, Nat.reduceSub, Array.replicate_succ, Array.replicate_zero, List.push_toArray, List.append_toArray, List.nil_append, List.cons_append]
  gi_wp2_with (refine ⟨trivial, ?_⟩; gi_at_call 105; refine (side_in _ _ _ _ _ _ _ _).mono ?_; rintro e w' ⟨rfl, rfl⟩)
  have bO := Boxed.new w 3 (.int .i64 0)
  have bA := Boxed.new (w.alloc (.cells #[.int .i64 0] 3)) 69 (.slice A na ca)
  rw [World.size_alloc] at bA
  have bB := Boxed.new ((w.alloc (.cells #[.int .i64 0] 3)).alloc (.cells #[.slice A na ca] 69)) 69 (.slice B nb cb)
  rw [World.size_alloc, World.size_alloc] at bB
  have hB0 : Below w.heap.size w (((w.alloc (.cells #[.int .i64 0] 3)).alloc (.cells #[.slice A na ca] 69)).alloc (.cells #[.slice B nb cb] 69)) := (((Below.refl _ w).alloc (Nat.le_refl _) _).alloc (by simp) _).alloc (by simp; omega) _
  have bO' := (bO.alloc (.cells #[.slice A na ca] 69)).alloc (.cells #[.slice B nb cb] 69)
  have bA' := bA.alloc (.cells #[.slice B nb cb] 69)
  refine wpIn_rangeFunc_ownG rfl (by omega) (gf := 119) (lb := #[.pointer (some ⟨w.heap.size + 1, 0, none⟩), .pointer (some ⟨w.heap.size + 1 + 1, 0, none⟩)]) rfl trivial (enters_of Tryz.func119 (by kernel_rfl) rfl)
    (side_stops (5 - 1) (by omega) (w.heap.size + 1) (w.heap.size + 1 + 1) w.heap.size A B na nb ca cb xs ys hx hy hlx hly _ hB0.size (by simp) (by simp) (hLa.below hB0) (hLb.below hB0) bA'.cell bB.cell)
    KeepB.trans (keepB_b hB0.size (by simp) (by simp)) (Below.refl _ _) (fun _ => rfl)
    (fun pre W => (Boxed W w.heap.size 3 (.int .i64 (cmpF pre)) ∧ Boxed W (w.heap.size + 1) 69 (.slice A na ca) ∧ Boxed W (w.heap.size + 1 + 1) 69 (.slice B nb cb)) ∧ Below w.heap.size w W)
    (fun _ _ _ => False)
    (OwnFrom.and (OwnFrom.and (Own.from (boxed_own _ _ _) _) (OwnFrom.and (Own.from (boxed_own _ _ (fun _ => _)) _) (Own.from (boxed_own _ _ (fun _ => _)) _))) (ownFrom_below (Nat.le_refl _) (by simp; omega)))
    (fun _ _ _ _ _ hs _ _ => hs)
    ⟨⟨bO', bA', bB⟩, hB0⟩
    (fun x => { tmps := #[.slice A na ca, .slice B nb cb, undef, undef, .int .i64 0, .pointer (some ⟨w.heap.size, 0, none⟩), .int .u64 (x.1.1 : Int), .int .u64 (x.1.2 : Int), undef, .slice A na ca, .slice B nb cb,
      .func (.func 119) #[] #[.pointer (some ⟨w.heap.size + 1, 0, none⟩), .pointer (some ⟨w.heap.size + 1 + 1, 0, none⟩)], .int .u64 (x.1.1 : Int), .int .u64 (x.1.2 : Int), undef, undef, undef, undef, undef, undef, undef], defers := [] }) ?assign ?body ?done ?stop
  case assign =>
    intro l x W K hK
    gi_wp2
    exact hK
  case body =>
    rintro l pre x W ⟨⟨hO, hA, hB⟩, hW⟩ _
    have hc := hO.cell
    have hf := hO.frozen
    by_cases h0 : cmpN x.1.1 x.1.2 = 0
    · have hd : (cmpN x.1.1 x.1.2 != 0) = false := by simp [h0]
      have H0 := Lib.hid h0
      clear h0
      gi_wp2_with (refine ⟨trivial, ?_⟩; gi_at_call 131; refine (CallsIn.inRound l (callsIn_wide.2 (cmp_any _ _ _))).mono ?_; rintro e w' ⟨rfl, rfl⟩)
      exact ⟨KeepsFrom.refl _ _, KeepB.refl _ _ _ _, ⟨by rw [cmpF_snoc, if_pos H0.out]; exact hO, hA, hB⟩, hW⟩
    · have hd : (cmpN x.1.1 x.1.2 != 0) = true := by simp [h0]
      have H0 := Lib.hid h0
      clear h0
      gi_wp2_with (refine ⟨trivial, ?_⟩; gi_at_call 131; refine (CallsIn.inRound l (callsIn_wide.2 (cmp_any _ _ _))).mono ?_; rintro e w' ⟨rfl, rfl⟩)
      have hA2 := hA.other (B' := w.heap.size) (by omega) (.int .i64 (cmpN x.1.1 x.1.2))
      have hB2 := hB.other (B' := w.heap.size) (by omega) (.int .i64 (cmpN x.1.1 x.1.2))
      exact ⟨(KeepsOthers.setCell _ _ _).from _, ⟨(Below.refl w.heap.size W).setCell (p := ⟨w.heap.size, 0, none⟩) (Nat.le_refl _) _, hA2.cell.trans hA.cell.symm, hB2.cell.trans hB.cell.symm⟩,
        ⟨by rw [cmpF_snoc, if_neg H0.out]; exact hO.set _, hA2, hB2⟩, hW.setCell (p := ⟨w.heap.size, 0, none⟩) (Nat.le_refl _) _⟩
  case done =>
    rintro D zs W hD rfl ⟨⟨hO, _, _⟩, hW⟩ hK
    have hc := hO.cell
    gi_wp2
    refine ⟨by simp, .inl ⟨_, _, rfl, run_takeDeferred hK, ?_⟩⟩
    refine ⟨_, results_tmp rfl _ _ _, ?_, hW.trans (belowK_b (w := w) (Nat.le_refl _) W D _ _ (by simp at hD; omega) hK rfl rfl)⟩
    rw [← av_upto xs ys hx hy (max xs.length ys.length) (by omega), ← bv_upto xs ys hx hy (max xs.length ys.length) (by omega), ← cmpF_total]
    rfl
  case stop =>
    rintro D c pre W _ _ h _
    exact h.elim

end Go.Proofs.YtjnefacdindamaaGreatDoor


/- nat.addCarry answers the limbs of the sum of both numbers and the carry, nat.Sub those of the difference, or that there is none; memory below is left as it was. Conditions: both slices read as limbs; lengths below 2^40; the carry is 0 or 1. -/
namespace Go.Proofs.YtjnefacdindamaaGreatDoor
open Go.RowKit Go.Shelf Num
set_option linter.unusedVariables false
set_option maxRecDepth 100000
attribute [local go_sem] Oper.semAt_some

/-- What a round of addCarry, or of Sub, finds: the row that is gathered in the box Bs, the carry in Bc, the iterator's two boxes; and nothing below n₁ has turned. -/
def Acc (n₁ g Bs Bc Ba Bb cap : Nat) (va vb : Value) (w : World) (l : List Nat) (c : Nat) (W : World) : Prop :=
  (∃ v, Boxed W Bs 69 v ∧ W.ownsRow n₁ 74 1 v l.length (Us l) ∧ v = .slice (some ⟨g, 0, none⟩) l.length cap) ∧ Boxed W Bc 74 (.int .u64 (c : Int)) ∧ Boxed W Ba 69 va ∧ Boxed W Bb 69 vb ∧ Below n₁ w W

theorem one_new_set (W : World) (p : Addr) (u y : Value) (t : TypeId) : ∀ j v, [y][j]? = some v → ((W.setCell p u).alloc (.cells #[y] t)).cell? ((⟨W.heap.size, 0, none⟩ : Addr).add j) = some v := by
  have h := cell_one_new (W.setCell p u) y t
  simpa using h

theorem acc_own {β : Type} (n₁ g Bs Bc Ba Bb cap : Nat) (va vb : Value) (w : World) (l : β → List Nat) (c : β → Nat) (B : Nat) (hn : n₁ ≤ w.heap.size) (hB : n₁ ≤ B) :
    OwnFrom B (fun s W => Acc n₁ g Bs Bc Ba Bb cap va vb w (l s) (c s) W) := by
  have h1 := Own.from (holdsRow_own n₁ Bs 69 74 1 (fun s : β => (l s).length) (fun s => Us (l s)) (fun s v => v = .slice (some ⟨g, 0, none⟩) (l s).length cap)) B
  exact OwnFrom.and h1 (OwnFrom.and (Own.from (boxed_own Bc 74 (fun s => .int .u64 (c s : Int))) B) (OwnFrom.and (Own.from (boxed_own Ba 69 (fun _ => va)) B) (OwnFrom.and (Own.from (boxed_own Bb 69 (fun _ => vb)) B) (ownFrom_below hn hB))))

theorem acc_step {n₁ g Bs Bc Ba Bb cap : Nat} {va vb : Value} {w W w1 : World} {l : List Nat} {c c' x : Nat} {tmp : Obj} (h : Acc n₁ g Bs Bc Ba Bb cap va vb w l c W)
    (hg : n₁ ≤ g) (hs : n₁ ≤ Bs) (hc : n₁ ≤ Bc) (d1 : g ≠ Bs) (d2 : g ≠ Bc) (d3 : g ≠ Ba) (d4 : g ≠ Bb) (d5 : Bs ≠ Bc) (d6 : Ba ≠ Bc) (d7 : Bb ≠ Bc) (d8 : Ba ≠ Bs) (d9 : Bb ≠ Bs) (hn : n₁ ≤ w.heap.size)
    (hown' : w1.ownsRow n₁ 74 1 (.slice (some ⟨g, 0, none⟩) (l.length + 1) cap) (l.length + 1) (Us l ++ [.int .u64 (x : Int)]))
    (hgrow : ((W.setCell ⟨Bc, 0, none⟩ (.int .u64 (c' : Int))).alloc tmp).grownBy w1 (some g)) :
    Boxed w1 Bs 69 (.slice (some ⟨g, 0, none⟩) l.length cap) ∧ Acc n₁ g Bs Bc Ba Bb cap va vb w (l ++ [x]) c' (w1.setCell ⟨Bs, 0, none⟩ (.slice (some ⟨g, 0, none⟩) (l.length + 1) cap)) ∧
      KeepsOthers W (w1.setCell ⟨Bs, 0, none⟩ (.slice (some ⟨g, 0, none⟩) (l.length + 1) cap)) ∧ KeepB n₁ Ba Bb W (w1.setCell ⟨Bs, 0, none⟩ (.slice (some ⟨g, 0, none⟩) (l.length + 1) cap)) := by
  obtain ⟨⟨v, bs, row, rfl⟩, bc, ba, bb, hW⟩ := h
  have ne : ∀ X, g ≠ X → some X ≠ some g := fun X h e => h (by injection e with e; exact e.symm)
  have bs1 := ((bs.other d5 (.int .u64 (c' : Int))).alloc tmp).kept hgrow (ne _ d1)
  have bc1 := ((bc.set (.int .u64 (c' : Int))).alloc tmp).kept hgrow (ne _ d2)
  have ba1 := ((ba.other d6 (.int .u64 (c' : Int))).alloc tmp).kept hgrow (ne _ d3)
  have bb1 := ((bb.other d7 (.int .u64 (c' : Int))).alloc tmp).kept hgrow (ne _ d4)
  have row1 : (W.setCell ⟨Bc, 0, none⟩ (.int .u64 (c' : Int))).ownsRow n₁ 74 1 (.slice (some ⟨g, 0, none⟩) l.length cap) l.length (Us l) :=
    row.kept (grownBy_setCell' W Bc _) (.inr (fun e => d2 (by simpa [Value.ownBlock] using e)))
  have hb : Below n₁ W (w1.setCell ⟨Bs, 0, none⟩ (.slice (some ⟨g, 0, none⟩) (l.length + 1) cap)) :=
    ((((Below.refl n₁ W).setCell (p := ⟨Bc, 0, none⟩) hc _).alloc (by have := hW.size; simp; omega) tmp).grown hgrow (by have := hW.size; simp; omega) (fun k e => by cases e; exact hg)).setCell (p := ⟨Bs, 0, none⟩) hs _
  have ba2 := ba1.other d8 (.slice (some ⟨g, 0, none⟩) (l.length + 1) cap)
  have bb2 := bb1.other d9 (.slice (some ⟨g, 0, none⟩) (l.length + 1) cap)
  refine ⟨bs1, ⟨⟨_, bs1.set _, ?_, by simp⟩, bc1.other (fun e => d5 e.symm) _, ba2, bb2, hW.trans hb⟩, ?_, hb, ba2.cell.trans ba.cell.symm, bb2.cell.trans bb.cell.symm⟩
  · rw [List.length_append, Us_append]
    exact hown'.kept (grownBy_setCell' w1 Bs _) (.inr (fun e => d1 (by simpa [Value.ownBlock] using e)))
  · refine (((KeepsOthers.setCell W _ _).trans (KeepsOthers.alloc _ tmp)).trans (KeepsOthers.of_grownBy hgrow fun j o ej hj => ?_)).trans (KeepsOthers.setCell _ _ _)
    rcases (row1.alloc tmp).2 with ⟨h0, _⟩ | ⟨g', cap', cur, h0, _, hgb, _⟩
    · cases h0
    · injection h0 with h0
      injection h0 with h0
      injection h0 with h0
      subst h0
      cases ej
      rw [hgb] at hj; cases hj; rfl

set_option maxRecDepth 100000 in
set_option maxHeartbeats 4000000 in
theorem addCarry_lt (A B : Option Addr) (ca cb c : Nat) (xs ys : List Nat) (w : World) (hLa : Lim w.heap.size w (.slice A xs.length ca) xs) (hLb : Lim w.heap.size w (.slice B ys.length cb) ys) (hlx : xs.length ≤ 1099511627776) (hly : ys.length ≤ 1099511627776) (hc : c ≤ 1) (hlg : xs.length < ys.length) :
    CallsIn Fence.wide 5 Tryz.prog 108 #[.slice A xs.length ca, .slice B ys.length cb, .int .u64 (c : Int)] w fun e W' => ∃ v, e = .returned v ∧ Lim W'.heap.size W' v (limbs (val xs + val ys + c)) ∧ Below w.heap.size w W' := by
  have hx := hLa.ok
  have hy := hLb.ok
  obtain ⟨i0, hi, hz0, hz1, hz2⟩ := info_parts infoU
  have hmx : max xs.length ys.length = ys.length := by omega
  have HMX := Lib.hid hmx
  have hlB : ys.length ≤ 1099511627776 := by omega
  clear hmx
  refine callsIn_of_wp_marks Tryz.func108 rfl trivial ?_ rfl
  simp only [Tryz.ntmps108, List.size_toArray, List.length_cons, List.length_nil, Nat.reduceAdd, Nat.reduceSub, Array.replicate_succ, Array.replicate_zero, List.push_toArray, List.append_toArray, List.nil_append, List.cons_append]
  gi_wp2_with (first
    | (gi_at_make; refine wpListIn_make_own _ rfl _ _ 69 rfl w.heap.size 74 i0 (.int .u64 0) 1 Tryz.underlying69 hi hz0 hz1 _ _ _ (ys.length + 1) rfl rfl (by omega) (by rw [hz2]; omega) (by unfold maxLen; omega) (by simp) ?_; intro w0 hown0 hgrow0)
    | (refine ⟨trivial, ?_⟩; gi_at_call 105; refine (side_in _ _ _ _ _ _ _ _).mono ?_; rintro e w' ⟨rfl, rfl⟩))
  have hrow0 : (w0.heap.size > w.heap.size + 1) := by
    have := (hown0.lt (w.heap.size + 1) (by simp [Value.ownBlock])).2
    omega
  have hB00 : Below w.heap.size w w0 := ((Below.refl _ w).alloc (Nat.le_refl _) _).grown hgrow0 (by simp) (fun k e => by cases e)
  have bC0 : Boxed w0 w.heap.size 74 (.int .u64 (c : Int)) := (Boxed.new w 74 (.int .u64 (c : Int))).kept hgrow0 (by simp)
  have bS := Boxed.new w0 69 (.slice (some ⟨w.heap.size + 1, 0, none⟩) 0 (ys.length + 1))
  have bA := Boxed.new (w0.alloc (.cells #[.slice (some ⟨w.heap.size + 1, 0, none⟩) 0 (ys.length + 1)] 69)) 69 (.slice A xs.length ca)
  rw [World.size_alloc] at bA
  have bB := Boxed.new ((w0.alloc (.cells #[.slice (some ⟨w.heap.size + 1, 0, none⟩) 0 (ys.length + 1)] 69)).alloc (.cells #[.slice A xs.length ca] 69)) 69 (.slice B ys.length cb)
  rw [World.size_alloc, World.size_alloc] at bB
  have bS' := (bS.alloc (.cells #[.slice A xs.length ca] 69)).alloc (.cells #[.slice B ys.length cb] 69)
  have bC' := ((bC0.alloc (.cells #[.slice (some ⟨w.heap.size + 1, 0, none⟩) 0 (ys.length + 1)] 69)).alloc (.cells #[.slice A xs.length ca] 69)).alloc (.cells #[.slice B ys.length cb] 69)
  have bA' := bA.alloc (.cells #[.slice B ys.length cb] 69)
  have hown1 := ((hown0.alloc (.cells #[.slice (some ⟨w.heap.size + 1, 0, none⟩) 0 (ys.length + 1)] 69)).alloc (.cells #[.slice A xs.length ca] 69)).alloc (.cells #[.slice B ys.length cb] 69)
  rw [World.size_alloc] at hown1
  have hB0 : Below w.heap.size w (((w0.alloc (.cells #[.slice (some ⟨w.heap.size + 1, 0, none⟩) 0 (ys.length + 1)] 69)).alloc (.cells #[.slice A xs.length ca] 69)).alloc (.cells #[.slice B ys.length cb] 69)) :=
    ((hB00.alloc hB00.size _).alloc (by simp; omega) _).alloc (by simp; omega) _
  refine wpIn_rangeFunc_ownG rfl (by omega) (gf := 119) (lb := #[.pointer (some ⟨w0.heap.size + 1, 0, none⟩), .pointer (some ⟨w0.heap.size + 1 + 1, 0, none⟩)]) rfl trivial (enters_of Tryz.func119 (by kernel_rfl) rfl)
    (side_stops (5 - 1) (by omega) (w0.heap.size + 1) (w0.heap.size + 1 + 1) w.heap.size A B xs.length ys.length ca cb xs ys hx hy hlx hly _ hB0.size (by simp) (by simp) (hLa.below hB0) (hLb.below hB0) bA'.cell bB.cell)
    KeepB.trans (keepB_b hB0.size (by simp) (by simp)) (Below.refl _ _) (fun _ => rfl)
    (fun pre W => Acc w.heap.size (w.heap.size + 1) w0.heap.size w.heap.size (w0.heap.size + 1) (w0.heap.size + 1 + 1) (ys.length + 1) (.slice A xs.length ca) (.slice B ys.length cb) w (addF c pre).1 (addF c pre).2 W)
    (fun _ _ _ => False)
    (acc_own _ _ _ _ _ _ _ _ _ w (fun pre => (addF c pre).1) (fun pre => (addF c pre).2) _ (Nat.le_refl _) hB0.size)
    (fun _ _ _ _ _ hs _ _ => hs)
    ⟨⟨_, bS', hown1, rfl⟩, bC', bA', bB, hB0⟩
    (fun x => { tmps := #[.slice A xs.length ca, .slice B ys.length cb, .int .u64 (c : Int), undef, undef, .pointer (some ⟨w.heap.size, 0, none⟩), .slice none 0 0, .pointer (some ⟨w0.heap.size, 0, none⟩), .int .u64 (x.1.1 : Int), .int .u64 (x.1.2 : Int), undef,
      .slice A xs.length ca, .int .i64 (xs.length : Int), .slice B ys.length cb, .int .i64 (ys.length : Int), .int .i64 (ys.length : Int), .int .i64 ((ys.length : Int) + 1), .slice (some ⟨w.heap.size + 1, 0, none⟩) 0 (ys.length + 1), .slice A xs.length ca, .slice B ys.length cb,
      .func (.func 119) #[] #[.pointer (some ⟨w0.heap.size + 1, 0, none⟩), .pointer (some ⟨w0.heap.size + 1 + 1, 0, none⟩)], .int .u64 (x.1.1 : Int), .int .u64 (x.1.2 : Int),
      undef, undef, undef, undef, undef, undef, undef, undef, undef, undef, undef, undef, undef, undef, undef, undef, undef, undef, undef], defers := [] }) ?assign ?body ?done ?stop
  case assign =>
    intro l x W K hK
    gi_wp2
    exact hK
  case body =>
    rintro l pre x W hA hlt
    rw [HMX.out] at hlt
    obtain ⟨i1, i2, i3, i4⟩ := addF_inv hc pre
    obtain ⟨⟨v, bs, row, rfl⟩, bc, ba, bb, hW⟩ := id hA
    have hc1 := bc.cell
    have hf1 := bc.frozen
    have hs1 := (bs.other (B' := w.heap.size) (by omega) (.int .u64 ((addHi x.1.1 x.1.2 (addF c pre).2 : Nat) : Int))).cell
    have hF30 : Fence.wide.fn 85 := trivial
    have hadd := add64 x.1.1 x.1.2 (addF c pre).2 i1
    have row1 : (W.setCell ⟨w.heap.size, 0, none⟩ (.int .u64 ((addHi x.1.1 x.1.2 (addF c pre).2 : Nat) : Int))).ownsRow w.heap.size 74 1 (.slice (some ⟨w.heap.size + 1, 0, none⟩) (addF c pre).1.length (ys.length + 1)) (addF c pre).1.length (Us (addF c pre).1) :=
      row.kept (grownBy_setCell' W _ _) (.inr (fun e => by simp [Value.ownBlock] at e))
    have hl2 : (addF c pre).1.length < ys.length := by omega
    have I2 := Lib.hid i2
    have I4 := Lib.hid i4
    clear i2 i4 row
    gi_wp2_with (gi_at_builtin; go_loud (refine wpListIn_append_fits _ rfl _ _ 69 rfl w.heap.size 74 i0 1 Tryz.underlying69 hi hz1 (w.heap.size + 1) (addF c pre).1.length (ys.length + 1) _ rfl (row1.alloc _) ⟨W.heap.size, 0, none⟩ 1 1 [.int .u64 ((addLo x.1.1 x.1.2 (addF c pre).2 : Nat) : Int)] rfl rfl (one_new_set _ _ _ _ _) (by simp [Value.oneCell']) (by omega) ?_; intro w1 hown' hgrow; obtain ⟨hv1, hA1, hk1, hkb⟩ := acc_step hA (by omega) (by omega) (by omega) (by omega) (by omega) (by omega) (by omega) (by omega) (by omega) (by omega) (by omega) (by omega) (Nat.le_refl _) hown' hgrow; have hc2 := hv1.cell; have hf2 := hv1.frozen))
    exact ⟨hk1.from _, hkb, by show Acc _ _ _ _ _ _ _ _ _ _ _ _ _; rw [addF_snoc]; exact hA1⟩
  case done =>
    rintro D zs W hD rfl hA hK
    obtain ⟨i1, i2, i3, i4⟩ := addF_inv hc (upto (pairAt xs ys hx hy) (max xs.length ys.length))
    have ht := addF_total hc (upto (pairAt xs ys hx hy) (max xs.length ys.length))
    rw [upto_length, HMX.out] at i2
    rw [HMX.out] at ht i1 i3 hA
    rw [av_upto xs ys hx hy _ (by omega), bv_upto xs ys hx hy _ (by omega)] at ht
    generalize hL : (addF c (upto (pairAt xs ys hx hy) (ys.length))).1 = L at *
    generalize hC : (addF c (upto (pairAt xs ys hx hy) (ys.length))).2 = C at *
    have HT := Lib.hid ht
    have I2 := Lib.hid i2
    have hll : L.length ≤ ys.length := by omega
    have hlm : C < M := Nat.lt_of_le_of_lt i1 (by decide)
    clear ht i2 i4 hL hC
    obtain ⟨⟨v, bs, row, rfl⟩, bc, ba, bb, hW⟩ := hA
    have hc1 := bc.cell
    have hs1 := bs.cell
    gi_wp2_with (gi_at_builtin; go_loud (refine wpListIn_append_fits _ rfl _ _ 69 rfl w.heap.size 74 i0 1 Tryz.underlying69 hi hz1 (w.heap.size + 1) L.length (ys.length + 1) _ rfl (row.alloc _) ⟨W.heap.size, 0, none⟩ 1 1 [.int .u64 (C : Int)] rfl rfl (cell_one_new _ _ _) (by simp [Value.oneCell']) (by omega) ?_; intro w1 hown' hgrow; obtain ⟨hv1, hv2, hr2, hk2, hb2⟩ := bs.appended (by decide) row hW.size (by omega) hown' hgrow; have hc2 := hv1.cell; have hf2 := hv1.frozen))
    have hO := ok_append i3 (ok_one hlm)
    have hlen : (L ++ [C]).length = L.length + 1 := by simp
    have hr3 := hr2
    rw [← Us_one, ← Us_append] at hr3
    have hLim := Lim.of_own hr3 hO (Nat.le_refl _)
    have hK2 := hk2.same D _ hK rfl
    generalize w1.setCell ⟨w0.heap.size, 0, none⟩ (.slice (some ⟨w.heap.size + 1, 0, none⟩) (L.length + 1) (ys.length + 1)) = W2 at *
    have hs3 := hv2.cell
    have hh := hgt_le (L ++ [C])
    rw [hlen] at hh
    have hhB : hgt (L ++ [C]) ≤ ys.length + 1 := by omega
    have hhI : ((hgt (L ++ [C]) : Nat) : Int) ≤ (ys.length : Int) + 1 := by omega
    have hd1 : decide (ys.length + 1 < hgt (L ++ [C])) = false := by simpa using hhB
    have hd2 : decide ((ys.length : Int) + 1 < ((hgt (L ++ [C]) : Nat) : Int)) = false := by simpa using hhI
    have hd3 : decide (((hgt (L ++ [C]) : Nat) : Int) < 0) = false := by simp
    have hd4 : decide (((hgt (L ++ [C]) : Nat) : Int) ≤ (ys.length : Int) + 1) = true := by simpa using hhI
    have hd5 : decide (hgt (L ++ [C]) ≤ ys.length + 1) = true := by simpa using hhB
    have HLEN := Lib.hid hlen
    clear hr2 hown' hgrow hc2 hf2 hlen bs bc ba bb row hc1 hs1
    have hF27 : Fence.wide.fn 106 := trivial
    gi_quiet ((gi_at_call 106; refine (callsIn_wide.2 (height_any _ _ (L ++ [C]) _ (hLim.drewN _) (by rw [HLEN.out]; omega))).mono ?_; rintro e w' ⟨rfl, rfl⟩; exact ⟨rfl, _, rfl⟩))
    all_goals
      gi_wp2
      refine ⟨by simp, .inl ⟨_, _, rfl, run_takeDeferred (w := W2.drewN nq) hK2, ?_⟩⟩
      refine ⟨_, results_tmp rfl _ _ _, _, rfl, ?_, (below_drewNs (hW.trans hb2) nq).trans (belowK_b (w := w) (Nat.le_refl _) (W2.drewN nq) D _ _ (by simp at hD; omega) hK2 rfl rfl)⟩
      rw [HT.out, ← trim_take]
      exact Lim.take (Lim.of_own (ownsRow_putObj (own_drewNs hr3 nq) _ hK2 rfl) hO (Nat.le_refl _)) _ (hgt_le _)
  case stop =>
    rintro D c pre W _ _ h _
    exact h.elim

set_option maxRecDepth 100000 in
set_option maxHeartbeats 4000000 in
theorem addCarry_ge (A B : Option Addr) (ca cb c : Nat) (xs ys : List Nat) (w : World) (hLa : Lim w.heap.size w (.slice A xs.length ca) xs) (hLb : Lim w.heap.size w (.slice B ys.length cb) ys) (hlx : xs.length ≤ 1099511627776) (hly : ys.length ≤ 1099511627776) (hc : c ≤ 1) (hlg : ys.length ≤ xs.length) :
    CallsIn Fence.wide 5 Tryz.prog 108 #[.slice A xs.length ca, .slice B ys.length cb, .int .u64 (c : Int)] w fun e W' => ∃ v, e = .returned v ∧ Lim W'.heap.size W' v (limbs (val xs + val ys + c)) ∧ Below w.heap.size w W' := by
  have hx := hLa.ok
  have hy := hLb.ok
  obtain ⟨i0, hi, hz0, hz1, hz2⟩ := info_parts infoU
  have hmx : max xs.length ys.length = xs.length := by omega
  have HMX := Lib.hid hmx
  have hlB : xs.length ≤ 1099511627776 := by omega
  clear hmx
  refine callsIn_of_wp_marks Tryz.func108 rfl trivial ?_ rfl
  simp only [Tryz.ntmps108, List.size_toArray, List.length_cons, List.length_nil, Nat.reduceAdd, Nat.reduceSub, Array.replicate_succ, Array.replicate_zero, List.push_toArray, List.append_toArray, List.nil_append, List.cons_append]
  gi_wp2_with (first
    | (gi_at_make; refine wpListIn_make_own _ rfl _ _ 69 rfl w.heap.size 74 i0 (.int .u64 0) 1 Tryz.underlying69 hi hz0 hz1 _ _ _ (xs.length + 1) rfl rfl (by omega) (by rw [hz2]; omega) (by unfold maxLen; omega) (by simp) ?_; intro w0 hown0 hgrow0)
    | (refine ⟨trivial, ?_⟩; gi_at_call 105; refine (side_in _ _ _ _ _ _ _ _).mono ?_; rintro e w' ⟨rfl, rfl⟩))
  have hrow0 : (w0.heap.size > w.heap.size + 1) := by
    have := (hown0.lt (w.heap.size + 1) (by simp [Value.ownBlock])).2
    omega
  have hB00 : Below w.heap.size w w0 := ((Below.refl _ w).alloc (Nat.le_refl _) _).grown hgrow0 (by simp) (fun k e => by cases e)
  have bC0 : Boxed w0 w.heap.size 74 (.int .u64 (c : Int)) := (Boxed.new w 74 (.int .u64 (c : Int))).kept hgrow0 (by simp)
  have bS := Boxed.new w0 69 (.slice (some ⟨w.heap.size + 1, 0, none⟩) 0 (xs.length + 1))
  have bA := Boxed.new (w0.alloc (.cells #[.slice (some ⟨w.heap.size + 1, 0, none⟩) 0 (xs.length + 1)] 69)) 69 (.slice A xs.length ca)
  rw [World.size_alloc] at bA
  have bB := Boxed.new ((w0.alloc (.cells #[.slice (some ⟨w.heap.size + 1, 0, none⟩) 0 (xs.length + 1)] 69)).alloc (.cells #[.slice A xs.length ca] 69)) 69 (.slice B ys.length cb)
  rw [World.size_alloc, World.size_alloc] at bB
  have bS' := (bS.alloc (.cells #[.slice A xs.length ca] 69)).alloc (.cells #[.slice B ys.length cb] 69)
  have bC' := ((bC0.alloc (.cells #[.slice (some ⟨w.heap.size + 1, 0, none⟩) 0 (xs.length + 1)] 69)).alloc (.cells #[.slice A xs.length ca] 69)).alloc (.cells #[.slice B ys.length cb] 69)
  have bA' := bA.alloc (.cells #[.slice B ys.length cb] 69)
  have hown1 := ((hown0.alloc (.cells #[.slice (some ⟨w.heap.size + 1, 0, none⟩) 0 (xs.length + 1)] 69)).alloc (.cells #[.slice A xs.length ca] 69)).alloc (.cells #[.slice B ys.length cb] 69)
  rw [World.size_alloc] at hown1
  have hB0 : Below w.heap.size w (((w0.alloc (.cells #[.slice (some ⟨w.heap.size + 1, 0, none⟩) 0 (xs.length + 1)] 69)).alloc (.cells #[.slice A xs.length ca] 69)).alloc (.cells #[.slice B ys.length cb] 69)) :=
    ((hB00.alloc hB00.size _).alloc (by simp; omega) _).alloc (by simp; omega) _
  refine wpIn_rangeFunc_ownG rfl (by omega) (gf := 119) (lb := #[.pointer (some ⟨w0.heap.size + 1, 0, none⟩), .pointer (some ⟨w0.heap.size + 1 + 1, 0, none⟩)]) rfl trivial (enters_of Tryz.func119 (by kernel_rfl) rfl)
    (side_stops (5 - 1) (by omega) (w0.heap.size + 1) (w0.heap.size + 1 + 1) w.heap.size A B xs.length ys.length ca cb xs ys hx hy hlx hly _ hB0.size (by simp) (by simp) (hLa.below hB0) (hLb.below hB0) bA'.cell bB.cell)
    KeepB.trans (keepB_b hB0.size (by simp) (by simp)) (Below.refl _ _) (fun _ => rfl)
    (fun pre W => Acc w.heap.size (w.heap.size + 1) w0.heap.size w.heap.size (w0.heap.size + 1) (w0.heap.size + 1 + 1) (xs.length + 1) (.slice A xs.length ca) (.slice B ys.length cb) w (addF c pre).1 (addF c pre).2 W)
    (fun _ _ _ => False)
    (acc_own _ _ _ _ _ _ _ _ _ w (fun pre => (addF c pre).1) (fun pre => (addF c pre).2) _ (Nat.le_refl _) hB0.size)
    (fun _ _ _ _ _ hs _ _ => hs)
    ⟨⟨_, bS', hown1, rfl⟩, bC', bA', bB, hB0⟩
    (fun x => { tmps := #[.slice A xs.length ca, .slice B ys.length cb, .int .u64 (c : Int), undef, undef, .pointer (some ⟨w.heap.size, 0, none⟩), .slice none 0 0, .pointer (some ⟨w0.heap.size, 0, none⟩), .int .u64 (x.1.1 : Int), .int .u64 (x.1.2 : Int), undef,
      .slice A xs.length ca, .int .i64 (xs.length : Int), .slice B ys.length cb, .int .i64 (ys.length : Int), .int .i64 (xs.length : Int), .int .i64 ((xs.length : Int) + 1), .slice (some ⟨w.heap.size + 1, 0, none⟩) 0 (xs.length + 1), .slice A xs.length ca, .slice B ys.length cb,
      .func (.func 119) #[] #[.pointer (some ⟨w0.heap.size + 1, 0, none⟩), .pointer (some ⟨w0.heap.size + 1 + 1, 0, none⟩)], .int .u64 (x.1.1 : Int), .int .u64 (x.1.2 : Int),
      undef, undef, undef, undef, undef, undef, undef, undef, undef, undef, undef, undef, undef, undef, undef, undef, undef, undef, undef], defers := [] }) ?assign ?body ?done ?stop
  case assign =>
    intro l x W K hK
    gi_wp2
    exact hK
  case body =>
    rintro l pre x W hA hlt
    rw [HMX.out] at hlt
    obtain ⟨i1, i2, i3, i4⟩ := addF_inv hc pre
    obtain ⟨⟨v, bs, row, rfl⟩, bc, ba, bb, hW⟩ := id hA
    have hc1 := bc.cell
    have hf1 := bc.frozen
    have hs1 := (bs.other (B' := w.heap.size) (by omega) (.int .u64 ((addHi x.1.1 x.1.2 (addF c pre).2 : Nat) : Int))).cell
    have hF30 : Fence.wide.fn 85 := trivial
    have hadd := add64 x.1.1 x.1.2 (addF c pre).2 i1
    have row1 : (W.setCell ⟨w.heap.size, 0, none⟩ (.int .u64 ((addHi x.1.1 x.1.2 (addF c pre).2 : Nat) : Int))).ownsRow w.heap.size 74 1 (.slice (some ⟨w.heap.size + 1, 0, none⟩) (addF c pre).1.length (xs.length + 1)) (addF c pre).1.length (Us (addF c pre).1) :=
      row.kept (grownBy_setCell' W _ _) (.inr (fun e => by simp [Value.ownBlock] at e))
    have hl2 : (addF c pre).1.length < xs.length := by omega
    have I2 := Lib.hid i2
    have I4 := Lib.hid i4
    clear i2 i4 row
    gi_wp2_with (gi_at_builtin; go_loud (refine wpListIn_append_fits _ rfl _ _ 69 rfl w.heap.size 74 i0 1 Tryz.underlying69 hi hz1 (w.heap.size + 1) (addF c pre).1.length (xs.length + 1) _ rfl (row1.alloc _) ⟨W.heap.size, 0, none⟩ 1 1 [.int .u64 ((addLo x.1.1 x.1.2 (addF c pre).2 : Nat) : Int)] rfl rfl (one_new_set _ _ _ _ _) (by simp [Value.oneCell']) (by omega) ?_; intro w1 hown' hgrow; obtain ⟨hv1, hA1, hk1, hkb⟩ := acc_step hA (by omega) (by omega) (by omega) (by omega) (by omega) (by omega) (by omega) (by omega) (by omega) (by omega) (by omega) (by omega) (Nat.le_refl _) hown' hgrow; have hc2 := hv1.cell; have hf2 := hv1.frozen))
    exact ⟨hk1.from _, hkb, by show Acc _ _ _ _ _ _ _ _ _ _ _ _ _; rw [addF_snoc]; exact hA1⟩
  case done =>
    rintro D zs W hD rfl hA hK
    obtain ⟨i1, i2, i3, i4⟩ := addF_inv hc (upto (pairAt xs ys hx hy) (max xs.length ys.length))
    have ht := addF_total hc (upto (pairAt xs ys hx hy) (max xs.length ys.length))
    rw [upto_length, HMX.out] at i2
    rw [HMX.out] at ht i1 i3 hA
    rw [av_upto xs ys hx hy _ (by omega), bv_upto xs ys hx hy _ (by omega)] at ht
    generalize hL : (addF c (upto (pairAt xs ys hx hy) (xs.length))).1 = L at *
    generalize hC : (addF c (upto (pairAt xs ys hx hy) (xs.length))).2 = C at *
    have HT := Lib.hid ht
    have I2 := Lib.hid i2
    have hll : L.length ≤ xs.length := by omega
    have hlm : C < M := Nat.lt_of_le_of_lt i1 (by decide)
    clear ht i2 i4 hL hC
    obtain ⟨⟨v, bs, row, rfl⟩, bc, ba, bb, hW⟩ := hA
    have hc1 := bc.cell
    have hs1 := bs.cell
    gi_wp2_with (gi_at_builtin; go_loud (refine wpListIn_append_fits _ rfl _ _ 69 rfl w.heap.size 74 i0 1 Tryz.underlying69 hi hz1 (w.heap.size + 1) L.length (xs.length + 1) _ rfl (row.alloc _) ⟨W.heap.size, 0, none⟩ 1 1 [.int .u64 (C : Int)] rfl rfl (cell_one_new _ _ _) (by simp [Value.oneCell']) (by omega) ?_; intro w1 hown' hgrow; obtain ⟨hv1, hv2, hr2, hk2, hb2⟩ := bs.appended (by decide) row hW.size (by omega) hown' hgrow; have hc2 := hv1.cell; have hf2 := hv1.frozen))
    have hO := ok_append i3 (ok_one hlm)
    have hlen : (L ++ [C]).length = L.length + 1 := by simp
    have hr3 := hr2
    rw [← Us_one, ← Us_append] at hr3
    have hLim := Lim.of_own hr3 hO (Nat.le_refl _)
    have hK2 := hk2.same D _ hK rfl
    generalize w1.setCell ⟨w0.heap.size, 0, none⟩ (.slice (some ⟨w.heap.size + 1, 0, none⟩) (L.length + 1) (xs.length + 1)) = W2 at *
    have hs3 := hv2.cell
    have hh := hgt_le (L ++ [C])
    rw [hlen] at hh
    have hhB : hgt (L ++ [C]) ≤ xs.length + 1 := by omega
    have hhI : ((hgt (L ++ [C]) : Nat) : Int) ≤ (xs.length : Int) + 1 := by omega
    have hd1 : decide (xs.length + 1 < hgt (L ++ [C])) = false := by simpa using hhB
    have hd2 : decide ((xs.length : Int) + 1 < ((hgt (L ++ [C]) : Nat) : Int)) = false := by simpa using hhI
    have hd3 : decide (((hgt (L ++ [C]) : Nat) : Int) < 0) = false := by simp
    have hd4 : decide (((hgt (L ++ [C]) : Nat) : Int) ≤ (xs.length : Int) + 1) = true := by simpa using hhI
    have hd5 : decide (hgt (L ++ [C]) ≤ xs.length + 1) = true := by simpa using hhB
    have HLEN := Lib.hid hlen
    clear hr2 hown' hgrow hc2 hf2 hlen bs bc ba bb row hc1 hs1
    have hF27 : Fence.wide.fn 106 := trivial
    gi_quiet ((gi_at_call 106; refine (callsIn_wide.2 (height_any _ _ (L ++ [C]) _ (hLim.drewN _) (by rw [HLEN.out]; omega))).mono ?_; rintro e w' ⟨rfl, rfl⟩; exact ⟨rfl, _, rfl⟩))
    all_goals
      gi_wp2
      refine ⟨by simp, .inl ⟨_, _, rfl, run_takeDeferred (w := W2.drewN nq) hK2, ?_⟩⟩
      refine ⟨_, results_tmp rfl _ _ _, _, rfl, ?_, (below_drewNs (hW.trans hb2) nq).trans (belowK_b (w := w) (Nat.le_refl _) (W2.drewN nq) D _ _ (by simp at hD; omega) hK2 rfl rfl)⟩
      rw [HT.out, ← trim_take]
      exact Lim.take (Lim.of_own (ownsRow_putObj (own_drewNs hr3 nq) _ hK2 rfl) hO (Nat.le_refl _)) _ (hgt_le _)
  case stop =>
    rintro D c pre W _ _ h _
    exact h.elim

end Go.Proofs.YtjnefacdindamaaGreatDoor


/- nat.Sub answers the limbs of the difference and true, or nil and false where it would be below 0; memory below is left as it was. Conditions: both slices read as limbs; lengths below 2^40. -/
namespace Go.Proofs.YtjnefacdindamaaGreatDoor
open Go.RowKit Go.Shelf Num
set_option linter.unusedVariables false
set_option maxRecDepth 100000
attribute [local go_sem] Oper.semAt_some

set_option maxRecDepth 100000 in
set_option maxHeartbeats 4000000 in
theorem sub_yes_lt (A B : Option Addr) (ca cb : Nat) (xs ys : List Nat) (w : World) (hLa : Lim w.heap.size w (.slice A xs.length ca) xs) (hLb : Lim w.heap.size w (.slice B ys.length cb) ys) (hlx : xs.length ≤ 1099511627776) (hly : ys.length ≤ 1099511627776) (hlg : xs.length < ys.length) (hle : val ys ≤ val xs) :
    CallsIn Fence.wide 5 Tryz.prog 86 #[.slice A xs.length ca, .slice B ys.length cb] w fun e W' => ∃ v, e = .returned (.tuple #[v, .bool true]) ∧ Lim W'.heap.size W' v (limbs (val xs - val ys)) ∧ Below w.heap.size w W' := by
  have hx := hLa.ok
  have hy := hLb.ok
  obtain ⟨i0, hi, hz0, hz1, hz2⟩ := info_parts infoU
  have hmx : max xs.length ys.length = ys.length := by omega
  have HMX := Lib.hid hmx
  have HLE := Lib.hid hle
  have hlB : ys.length ≤ 1099511627776 := by omega
  clear hmx hle
  refine callsIn_of_wp_marks Tryz.func86 rfl trivial ?_ rfl
  simp only [Tryz.ntmps86, List.size_toArray, List.length_cons, List.length_nil, Nat.reduceAdd, Nat.reduceSub, Array.replicate_succ, Array.replicate_zero, List.push_toArray, List.append_toArray, List.nil_append, List.cons_append]
  gi_wp2_with (first
    | (gi_at_make; refine wpListIn_make_own _ rfl _ _ 69 rfl w.heap.size 74 i0 (.int .u64 0) 1 Tryz.underlying69 hi hz0 hz1 _ _ _ (ys.length) rfl rfl (by omega) (by rw [hz2]; omega) (by unfold maxLen; omega) (by simp) ?_; intro w0 hown0 hgrow0)
    | (refine ⟨trivial, ?_⟩; gi_at_call 105; refine (side_in _ _ _ _ _ _ _ _).mono ?_; rintro e w' ⟨rfl, rfl⟩))
  have hrow0 : (w0.heap.size > w.heap.size) := by
    have := (hown0.lt (w.heap.size) (by simp [Value.ownBlock])).2
    omega
  have hB00 : Below w.heap.size w w0 := (Below.refl _ w).grown hgrow0 (by simp) (fun k e => by cases e)
  have bS := Boxed.new w0 69 (.slice (some ⟨w.heap.size, 0, none⟩) 0 ys.length)
  have bC := Boxed.new (w0.alloc (.cells #[.slice (some ⟨w.heap.size, 0, none⟩) 0 ys.length] 69)) 74 (.int .u64 0)
  rw [World.size_alloc] at bC
  have bA := Boxed.new ((w0.alloc (.cells #[.slice (some ⟨w.heap.size, 0, none⟩) 0 ys.length] 69)).alloc (.cells #[.int .u64 0] 74)) 69 (.slice A xs.length ca)
  rw [World.size_alloc, World.size_alloc] at bA
  have bB := Boxed.new (((w0.alloc (.cells #[.slice (some ⟨w.heap.size, 0, none⟩) 0 ys.length] 69)).alloc (.cells #[.int .u64 0] 74)).alloc (.cells #[.slice A xs.length ca] 69)) 69 (.slice B ys.length cb)
  rw [World.size_alloc, World.size_alloc, World.size_alloc] at bB
  have bS' := ((bS.alloc (.cells #[.int .u64 0] 74)).alloc (.cells #[.slice A xs.length ca] 69)).alloc (.cells #[.slice B ys.length cb] 69)
  have bC' := (bC.alloc (.cells #[.slice A xs.length ca] 69)).alloc (.cells #[.slice B ys.length cb] 69)
  have bA' := bA.alloc (.cells #[.slice B ys.length cb] 69)
  have hown1 := (((hown0.alloc (.cells #[.slice (some ⟨w.heap.size, 0, none⟩) 0 ys.length] 69)).alloc (.cells #[.int .u64 0] 74)).alloc (.cells #[.slice A xs.length ca] 69)).alloc (.cells #[.slice B ys.length cb] 69)
  have hB0 : Below w.heap.size w ((((w0.alloc (.cells #[.slice (some ⟨w.heap.size, 0, none⟩) 0 ys.length] 69)).alloc (.cells #[.int .u64 0] 74)).alloc (.cells #[.slice A xs.length ca] 69)).alloc (.cells #[.slice B ys.length cb] 69)) := (((hB00.alloc hB00.size _).alloc (by simp; omega) _).alloc (by simp; omega) _).alloc (by simp; omega) _
  refine wpIn_rangeFunc_ownG rfl (by omega) (gf := 119) (lb := #[.pointer (some ⟨w0.heap.size + 1 + 1, 0, none⟩), .pointer (some ⟨w0.heap.size + 1 + 1 + 1, 0, none⟩)]) rfl trivial (enters_of Tryz.func119 (by kernel_rfl) rfl)
    (side_stops (5 - 1) (by omega) (w0.heap.size + 1 + 1) (w0.heap.size + 1 + 1 + 1) w.heap.size A B xs.length ys.length ca cb xs ys hx hy hlx hly _ hB0.size (by simp) (by simp) (hLa.below hB0) (hLb.below hB0) bA'.cell bB.cell)
    KeepB.trans (keepB_b hB0.size (by simp) (by simp)) (Below.refl _ _) (fun _ => rfl)
    (fun pre W => Acc w.heap.size w.heap.size w0.heap.size (w0.heap.size + 1) (w0.heap.size + 1 + 1) (w0.heap.size + 1 + 1 + 1) (ys.length) (.slice A xs.length ca) (.slice B ys.length cb) w (subF pre).1 (subF pre).2 W)
    (fun _ _ _ => False)
    (acc_own _ _ _ _ _ _ _ _ _ w (fun pre => (subF pre).1) (fun pre => (subF pre).2) _ (Nat.le_refl _) hB0.size)
    (fun _ _ _ _ _ hs _ _ => hs)
    ⟨⟨_, bS', hown1, rfl⟩, bC', bA', bB, hB0⟩
    (fun x => { tmps := #[.slice A xs.length ca, .slice B ys.length cb, undef, undef, .slice none 0 0, .bool false, .pointer (some ⟨w0.heap.size, 0, none⟩), .pointer (some ⟨w0.heap.size + 1, 0, none⟩), .int .u64 (x.1.1 : Int), .int .u64 (x.1.2 : Int), undef,
      .slice A xs.length ca, .int .i64 (xs.length : Int), .slice B ys.length cb, .int .i64 (ys.length : Int), .int .i64 (ys.length : Int), .slice (some ⟨w.heap.size, 0, none⟩) 0 ys.length, .slice A xs.length ca, .slice B ys.length cb,
      .func (.func 119) #[] #[.pointer (some ⟨w0.heap.size + 1 + 1, 0, none⟩), .pointer (some ⟨w0.heap.size + 1 + 1 + 1, 0, none⟩)], .int .u64 (x.1.1 : Int), .int .u64 (x.1.2 : Int),
      undef, undef, undef, undef, undef, undef, undef, undef, undef, undef, undef, undef, undef, undef, undef, undef, undef], defers := [] }) ?assign ?body ?done ?stop
  case assign =>
    intro l x W K hK
    gi_wp2
    exact hK
  case body =>
    rintro l pre x W hA hlt
    rw [HMX.out] at hlt
    obtain ⟨i1, i2, i3, i4⟩ := subF_inv pre
    obtain ⟨⟨v, bs, row, rfl⟩, bc, ba, bb, hW⟩ := id hA
    have hc1 := bc.cell
    have hf1 := bc.frozen
    have hs1 := (bs.other (B' := w0.heap.size + 1) (by omega) (.int .u64 ((subHi x.1.1 x.1.2 (subF pre).2 : Nat) : Int))).cell
    have hF30 : Fence.wide.fn 84 := trivial
    have hsub := sub64 x.1.1 x.1.2 (subF pre).2 i1
    have row1 : (W.setCell ⟨w0.heap.size + 1, 0, none⟩ (.int .u64 ((subHi x.1.1 x.1.2 (subF pre).2 : Nat) : Int))).ownsRow w.heap.size 74 1 (.slice (some ⟨w.heap.size, 0, none⟩) (subF pre).1.length (ys.length)) (subF pre).1.length (Us (subF pre).1) :=
      row.kept (grownBy_setCell' W _ _) (.inr (fun e => by simp [Value.ownBlock] at e; omega))
    have hl2 : (subF pre).1.length < ys.length := by omega
    have I2 := Lib.hid i2
    have I4 := Lib.hid i4
    clear i2 i4 row
    gi_wp2_with (gi_at_builtin; refine wpListIn_append_fits _ rfl _ _ 69 rfl w.heap.size 74 i0 1 Tryz.underlying69 hi hz1 w.heap.size (subF pre).1.length (ys.length) _ rfl (row1.alloc _) ⟨W.heap.size, 0, none⟩ 1 1 [.int .u64 ((subLo x.1.1 x.1.2 (subF pre).2 : Nat) : Int)] rfl rfl (one_new_set _ _ _ _ _) (by simp [Value.oneCell']) (by omega) ?_; intro w1 hown' hgrow; obtain ⟨hv1, hA1, hk1, hkb⟩ := acc_step hA (by omega) (by omega) (by omega) (by omega) (by omega) (by omega) (by omega) (by omega) (by omega) (by omega) (by omega) (by omega) (Nat.le_refl _) hown' hgrow; have hc2 := hv1.cell; have hf2 := hv1.frozen)
    exact ⟨hk1.from _, hkb, by show Acc _ _ _ _ _ _ _ _ _ _ _ _ _; rw [subF_snoc]; exact hA1⟩
  case done =>
    rintro D zs W hD rfl hA hK
    obtain ⟨i1, i2, i3, i4⟩ := subF_inv (upto (pairAt xs ys hx hy) (max xs.length ys.length))
    have hbo := subF_borrow (upto (pairAt xs ys hx hy) (max xs.length ys.length))
    have ht := subF_total (upto (pairAt xs ys hx hy) (max xs.length ys.length))
    rw [upto_length, HMX.out] at i2
    rw [HMX.out] at ht i1 i3 hA hbo
    rw [av_upto xs ys hx hy _ (by omega), bv_upto xs ys hx hy _ (by omega)] at ht hbo
    generalize hL : (subF (upto (pairAt xs ys hx hy) (ys.length))).1 = L at *
    generalize hC : (subF (upto (pairAt xs ys hx hy) (ys.length))).2 = C at *
    have hle := HLE.out
    rw [if_neg (by omega)] at hbo
    subst hbo
    have HT := Lib.hid (ht hle)
    have hll : L.length ≤ ys.length := by omega
    clear ht i2 i4 hL hC hle
    obtain ⟨⟨v, bs, row, rfl⟩, bc, ba, bb, hW⟩ := hA
    have hc1 : W.cell? ⟨w0.heap.size + 1, 0, none⟩ = some (.int .u64 0) := bc.cell
    have hs1 := bs.cell
    have hLim := Lim.of_own row i3 (Nat.le_refl _)
    have hh := hgt_le L
    have hhB : hgt L ≤ ys.length := by omega
    have hhI : ((hgt L : Nat) : Int) ≤ (ys.length : Int) := by omega
    have hd3 : decide (((hgt L : Nat) : Int) < 0) = false := by simp
    have hF27 : Fence.wide.fn 106 := trivial
    clear bs bc ba bb
    gi_wp2
    gi_quiet ((gi_at_call 106; refine (callsIn_wide.2 (height_any _ _ L _ (hLim.drewN _) (by omega))).mono ?_; rintro e w' ⟨rfl, rfl⟩; exact ⟨rfl, _, rfl⟩))
    gi_wp2
    refine ⟨by simp, .inl ⟨_, _, rfl, run_takeDeferred (w := W.drewN nq) hK, ?_⟩⟩
    refine ⟨_, results_tmp2 rfl _ _ _, _, rfl, ?_, (below_drewNs hW nq).trans (belowK_b (w := w) (Nat.le_refl _) (W.drewN nq) D _ _ (by simp at hD; omega) hK rfl rfl)⟩
    rw [HT.out, ← trim_take]
    exact Lim.take (Lim.of_own (ownsRow_putObj (own_drewNs row nq) _ hK rfl) i3 (Nat.le_refl _)) _ (hgt_le _)
  case stop =>
    rintro D c pre W _ _ h _
    exact h.elim

set_option maxRecDepth 100000 in
set_option maxHeartbeats 4000000 in
theorem sub_yes_ge (A B : Option Addr) (ca cb : Nat) (xs ys : List Nat) (w : World) (hLa : Lim w.heap.size w (.slice A xs.length ca) xs) (hLb : Lim w.heap.size w (.slice B ys.length cb) ys) (hlx : xs.length ≤ 1099511627776) (hly : ys.length ≤ 1099511627776) (hlg : ys.length ≤ xs.length) (hle : val ys ≤ val xs) :
    CallsIn Fence.wide 5 Tryz.prog 86 #[.slice A xs.length ca, .slice B ys.length cb] w fun e W' => ∃ v, e = .returned (.tuple #[v, .bool true]) ∧ Lim W'.heap.size W' v (limbs (val xs - val ys)) ∧ Below w.heap.size w W' := by
  have hx := hLa.ok
  have hy := hLb.ok
  obtain ⟨i0, hi, hz0, hz1, hz2⟩ := info_parts infoU
  have hmx : max xs.length ys.length = xs.length := by omega
  have HMX := Lib.hid hmx
  have HLE := Lib.hid hle
  have hlB : xs.length ≤ 1099511627776 := by omega
  clear hmx hle
  refine callsIn_of_wp_marks Tryz.func86 rfl trivial ?_ rfl
  simp only [Tryz.ntmps86, List.size_toArray, List.length_cons, List.length_nil, Nat.reduceAdd, Nat.reduceSub, Array.replicate_succ, Array.replicate_zero, List.push_toArray, List.append_toArray, List.nil_append, List.cons_append]
  gi_wp2_with (first
    | (gi_at_make; refine wpListIn_make_own _ rfl _ _ 69 rfl w.heap.size 74 i0 (.int .u64 0) 1 Tryz.underlying69 hi hz0 hz1 _ _ _ (xs.length) rfl rfl (by omega) (by rw [hz2]; omega) (by unfold maxLen; omega) (by simp) ?_; intro w0 hown0 hgrow0)
    | (refine ⟨trivial, ?_⟩; gi_at_call 105; refine (side_in _ _ _ _ _ _ _ _).mono ?_; rintro e w' ⟨rfl, rfl⟩))
  have hrow0 : (w0.heap.size > w.heap.size) := by
    have := (hown0.lt (w.heap.size) (by simp [Value.ownBlock])).2
    omega
  have hB00 : Below w.heap.size w w0 := (Below.refl _ w).grown hgrow0 (by simp) (fun k e => by cases e)
  have bS := Boxed.new w0 69 (.slice (some ⟨w.heap.size, 0, none⟩) 0 xs.length)
  have bC := Boxed.new (w0.alloc (.cells #[.slice (some ⟨w.heap.size, 0, none⟩) 0 xs.length] 69)) 74 (.int .u64 0)
  rw [World.size_alloc] at bC
  have bA := Boxed.new ((w0.alloc (.cells #[.slice (some ⟨w.heap.size, 0, none⟩) 0 xs.length] 69)).alloc (.cells #[.int .u64 0] 74)) 69 (.slice A xs.length ca)
  rw [World.size_alloc, World.size_alloc] at bA
  have bB := Boxed.new (((w0.alloc (.cells #[.slice (some ⟨w.heap.size, 0, none⟩) 0 xs.length] 69)).alloc (.cells #[.int .u64 0] 74)).alloc (.cells #[.slice A xs.length ca] 69)) 69 (.slice B ys.length cb)
  rw [World.size_alloc, World.size_alloc, World.size_alloc] at bB
  have bS' := ((bS.alloc (.cells #[.int .u64 0] 74)).alloc (.cells #[.slice A xs.length ca] 69)).alloc (.cells #[.slice B ys.length cb] 69)
  have bC' := (bC.alloc (.cells #[.slice A xs.length ca] 69)).alloc (.cells #[.slice B ys.length cb] 69)
  have bA' := bA.alloc (.cells #[.slice B ys.length cb] 69)
  have hown1 := (((hown0.alloc (.cells #[.slice (some ⟨w.heap.size, 0, none⟩) 0 xs.length] 69)).alloc (.cells #[.int .u64 0] 74)).alloc (.cells #[.slice A xs.length ca] 69)).alloc (.cells #[.slice B ys.length cb] 69)
  have hB0 : Below w.heap.size w ((((w0.alloc (.cells #[.slice (some ⟨w.heap.size, 0, none⟩) 0 xs.length] 69)).alloc (.cells #[.int .u64 0] 74)).alloc (.cells #[.slice A xs.length ca] 69)).alloc (.cells #[.slice B ys.length cb] 69)) := (((hB00.alloc hB00.size _).alloc (by simp; omega) _).alloc (by simp; omega) _).alloc (by simp; omega) _
  refine wpIn_rangeFunc_ownG rfl (by omega) (gf := 119) (lb := #[.pointer (some ⟨w0.heap.size + 1 + 1, 0, none⟩), .pointer (some ⟨w0.heap.size + 1 + 1 + 1, 0, none⟩)]) rfl trivial (enters_of Tryz.func119 (by kernel_rfl) rfl)
    (side_stops (5 - 1) (by omega) (w0.heap.size + 1 + 1) (w0.heap.size + 1 + 1 + 1) w.heap.size A B xs.length ys.length ca cb xs ys hx hy hlx hly _ hB0.size (by simp) (by simp) (hLa.below hB0) (hLb.below hB0) bA'.cell bB.cell)
    KeepB.trans (keepB_b hB0.size (by simp) (by simp)) (Below.refl _ _) (fun _ => rfl)
    (fun pre W => Acc w.heap.size w.heap.size w0.heap.size (w0.heap.size + 1) (w0.heap.size + 1 + 1) (w0.heap.size + 1 + 1 + 1) (xs.length) (.slice A xs.length ca) (.slice B ys.length cb) w (subF pre).1 (subF pre).2 W)
    (fun _ _ _ => False)
    (acc_own _ _ _ _ _ _ _ _ _ w (fun pre => (subF pre).1) (fun pre => (subF pre).2) _ (Nat.le_refl _) hB0.size)
    (fun _ _ _ _ _ hs _ _ => hs)
    ⟨⟨_, bS', hown1, rfl⟩, bC', bA', bB, hB0⟩
    (fun x => { tmps := #[.slice A xs.length ca, .slice B ys.length cb, undef, undef, .slice none 0 0, .bool false, .pointer (some ⟨w0.heap.size, 0, none⟩), .pointer (some ⟨w0.heap.size + 1, 0, none⟩), .int .u64 (x.1.1 : Int), .int .u64 (x.1.2 : Int), undef,
      .slice A xs.length ca, .int .i64 (xs.length : Int), .slice B ys.length cb, .int .i64 (ys.length : Int), .int .i64 (xs.length : Int), .slice (some ⟨w.heap.size, 0, none⟩) 0 xs.length, .slice A xs.length ca, .slice B ys.length cb,
      .func (.func 119) #[] #[.pointer (some ⟨w0.heap.size + 1 + 1, 0, none⟩), .pointer (some ⟨w0.heap.size + 1 + 1 + 1, 0, none⟩)], .int .u64 (x.1.1 : Int), .int .u64 (x.1.2 : Int),
      undef, undef, undef, undef, undef, undef, undef, undef, undef, undef, undef, undef, undef, undef, undef, undef, undef], defers := [] }) ?assign ?body ?done ?stop
  case assign =>
    intro l x W K hK
    gi_wp2
    exact hK
  case body =>
    rintro l pre x W hA hlt
    rw [HMX.out] at hlt
    obtain ⟨i1, i2, i3, i4⟩ := subF_inv pre
    obtain ⟨⟨v, bs, row, rfl⟩, bc, ba, bb, hW⟩ := id hA
    have hc1 := bc.cell
    have hf1 := bc.frozen
    have hs1 := (bs.other (B' := w0.heap.size + 1) (by omega) (.int .u64 ((subHi x.1.1 x.1.2 (subF pre).2 : Nat) : Int))).cell
    have hF30 : Fence.wide.fn 84 := trivial
    have hsub := sub64 x.1.1 x.1.2 (subF pre).2 i1
    have row1 : (W.setCell ⟨w0.heap.size + 1, 0, none⟩ (.int .u64 ((subHi x.1.1 x.1.2 (subF pre).2 : Nat) : Int))).ownsRow w.heap.size 74 1 (.slice (some ⟨w.heap.size, 0, none⟩) (subF pre).1.length (xs.length)) (subF pre).1.length (Us (subF pre).1) :=
      row.kept (grownBy_setCell' W _ _) (.inr (fun e => by simp [Value.ownBlock] at e; omega))
    have hl2 : (subF pre).1.length < xs.length := by omega
    have I2 := Lib.hid i2
    have I4 := Lib.hid i4
    clear i2 i4 row
    gi_wp2_with (gi_at_builtin; refine wpListIn_append_fits _ rfl _ _ 69 rfl w.heap.size 74 i0 1 Tryz.underlying69 hi hz1 w.heap.size (subF pre).1.length (xs.length) _ rfl (row1.alloc _) ⟨W.heap.size, 0, none⟩ 1 1 [.int .u64 ((subLo x.1.1 x.1.2 (subF pre).2 : Nat) : Int)] rfl rfl (one_new_set _ _ _ _ _) (by simp [Value.oneCell']) (by omega) ?_; intro w1 hown' hgrow; obtain ⟨hv1, hA1, hk1, hkb⟩ := acc_step hA (by omega) (by omega) (by omega) (by omega) (by omega) (by omega) (by omega) (by omega) (by omega) (by omega) (by omega) (by omega) (Nat.le_refl _) hown' hgrow; have hc2 := hv1.cell; have hf2 := hv1.frozen)
    exact ⟨hk1.from _, hkb, by show Acc _ _ _ _ _ _ _ _ _ _ _ _ _; rw [subF_snoc]; exact hA1⟩
  case done =>
    rintro D zs W hD rfl hA hK
    obtain ⟨i1, i2, i3, i4⟩ := subF_inv (upto (pairAt xs ys hx hy) (max xs.length ys.length))
    have hbo := subF_borrow (upto (pairAt xs ys hx hy) (max xs.length ys.length))
    have ht := subF_total (upto (pairAt xs ys hx hy) (max xs.length ys.length))
    rw [upto_length, HMX.out] at i2
    rw [HMX.out] at ht i1 i3 hA hbo
    rw [av_upto xs ys hx hy _ (by omega), bv_upto xs ys hx hy _ (by omega)] at ht hbo
    generalize hL : (subF (upto (pairAt xs ys hx hy) (xs.length))).1 = L at *
    generalize hC : (subF (upto (pairAt xs ys hx hy) (xs.length))).2 = C at *
    have hle := HLE.out
    rw [if_neg (by omega)] at hbo
    subst hbo
    have HT := Lib.hid (ht hle)
    have hll : L.length ≤ xs.length := by omega
    clear ht i2 i4 hL hC hle
    obtain ⟨⟨v, bs, row, rfl⟩, bc, ba, bb, hW⟩ := hA
    have hc1 : W.cell? ⟨w0.heap.size + 1, 0, none⟩ = some (.int .u64 0) := bc.cell
    have hs1 := bs.cell
    have hLim := Lim.of_own row i3 (Nat.le_refl _)
    have hh := hgt_le L
    have hhB : hgt L ≤ xs.length := by omega
    have hhI : ((hgt L : Nat) : Int) ≤ (xs.length : Int) := by omega
    have hd3 : decide (((hgt L : Nat) : Int) < 0) = false := by simp
    have hF27 : Fence.wide.fn 106 := trivial
    clear bs bc ba bb
    gi_wp2
    gi_quiet ((gi_at_call 106; refine (callsIn_wide.2 (height_any _ _ L _ (hLim.drewN _) (by omega))).mono ?_; rintro e w' ⟨rfl, rfl⟩; exact ⟨rfl, _, rfl⟩))
    gi_wp2
    refine ⟨by simp, .inl ⟨_, _, rfl, run_takeDeferred (w := W.drewN nq) hK, ?_⟩⟩
    refine ⟨_, results_tmp2 rfl _ _ _, _, rfl, ?_, (below_drewNs hW nq).trans (belowK_b (w := w) (Nat.le_refl _) (W.drewN nq) D _ _ (by simp at hD; omega) hK rfl rfl)⟩
    rw [HT.out, ← trim_take]
    exact Lim.take (Lim.of_own (ownsRow_putObj (own_drewNs row nq) _ hK rfl) i3 (Nat.le_refl _)) _ (hgt_le _)
  case stop =>
    rintro D c pre W _ _ h _
    exact h.elim

set_option maxRecDepth 100000 in
set_option maxHeartbeats 4000000 in
theorem sub_no_lt (A B : Option Addr) (ca cb : Nat) (xs ys : List Nat) (w : World) (hLa : Lim w.heap.size w (.slice A xs.length ca) xs) (hLb : Lim w.heap.size w (.slice B ys.length cb) ys) (hlx : xs.length ≤ 1099511627776) (hly : ys.length ≤ 1099511627776) (hlg : xs.length < ys.length) (hle : val xs < val ys) :
    CallsIn Fence.wide 5 Tryz.prog 86 #[.slice A xs.length ca, .slice B ys.length cb] w fun e W' => e = .returned (.tuple #[.slice none 0 0, .bool false]) ∧ Below w.heap.size w W' := by
  have hx := hLa.ok
  have hy := hLb.ok
  obtain ⟨i0, hi, hz0, hz1, hz2⟩ := info_parts infoU
  have hmx : max xs.length ys.length = ys.length := by omega
  have HMX := Lib.hid hmx
  have HLE := Lib.hid hle
  have hlB : ys.length ≤ 1099511627776 := by omega
  clear hmx hle
  refine callsIn_of_wp_marks Tryz.func86 rfl trivial ?_ rfl
  simp only [Tryz.ntmps86, List.size_toArray, List.length_cons, List.length_nil, Nat.reduceAdd, Nat.reduceSub, Array.replicate_succ, Array.replicate_zero, List.push_toArray, List.append_toArray, List.nil_append, List.cons_append]
  gi_wp2_with (first
    | (gi_at_make; refine wpListIn_make_own _ rfl _ _ 69 rfl w.heap.size 74 i0 (.int .u64 0) 1 Tryz.underlying69 hi hz0 hz1 _ _ _ (ys.length) rfl rfl (by omega) (by rw [hz2]; omega) (by unfold maxLen; omega) (by simp) ?_; intro w0 hown0 hgrow0)
    | (refine ⟨trivial, ?_⟩; gi_at_call 105; refine (side_in _ _ _ _ _ _ _ _).mono ?_; rintro e w' ⟨rfl, rfl⟩))
  have hrow0 : (w0.heap.size > w.heap.size) := by
    have := (hown0.lt (w.heap.size) (by simp [Value.ownBlock])).2
    omega
  have hB00 : Below w.heap.size w w0 := (Below.refl _ w).grown hgrow0 (by simp) (fun k e => by cases e)
  have bS := Boxed.new w0 69 (.slice (some ⟨w.heap.size, 0, none⟩) 0 ys.length)
  have bC := Boxed.new (w0.alloc (.cells #[.slice (some ⟨w.heap.size, 0, none⟩) 0 ys.length] 69)) 74 (.int .u64 0)
  rw [World.size_alloc] at bC
  have bA := Boxed.new ((w0.alloc (.cells #[.slice (some ⟨w.heap.size, 0, none⟩) 0 ys.length] 69)).alloc (.cells #[.int .u64 0] 74)) 69 (.slice A xs.length ca)
  rw [World.size_alloc, World.size_alloc] at bA
  have bB := Boxed.new (((w0.alloc (.cells #[.slice (some ⟨w.heap.size, 0, none⟩) 0 ys.length] 69)).alloc (.cells #[.int .u64 0] 74)).alloc (.cells #[.slice A xs.length ca] 69)) 69 (.slice B ys.length cb)
  rw [World.size_alloc, World.size_alloc, World.size_alloc] at bB
  have bS' := ((bS.alloc (.cells #[.int .u64 0] 74)).alloc (.cells #[.slice A xs.length ca] 69)).alloc (.cells #[.slice B ys.length cb] 69)
  have bC' := (bC.alloc (.cells #[.slice A xs.length ca] 69)).alloc (.cells #[.slice B ys.length cb] 69)
  have bA' := bA.alloc (.cells #[.slice B ys.length cb] 69)
  have hown1 := (((hown0.alloc (.cells #[.slice (some ⟨w.heap.size, 0, none⟩) 0 ys.length] 69)).alloc (.cells #[.int .u64 0] 74)).alloc (.cells #[.slice A xs.length ca] 69)).alloc (.cells #[.slice B ys.length cb] 69)
  have hB0 : Below w.heap.size w ((((w0.alloc (.cells #[.slice (some ⟨w.heap.size, 0, none⟩) 0 ys.length] 69)).alloc (.cells #[.int .u64 0] 74)).alloc (.cells #[.slice A xs.length ca] 69)).alloc (.cells #[.slice B ys.length cb] 69)) := (((hB00.alloc hB00.size _).alloc (by simp; omega) _).alloc (by simp; omega) _).alloc (by simp; omega) _
  refine wpIn_rangeFunc_ownG rfl (by omega) (gf := 119) (lb := #[.pointer (some ⟨w0.heap.size + 1 + 1, 0, none⟩), .pointer (some ⟨w0.heap.size + 1 + 1 + 1, 0, none⟩)]) rfl trivial (enters_of Tryz.func119 (by kernel_rfl) rfl)
    (side_stops (5 - 1) (by omega) (w0.heap.size + 1 + 1) (w0.heap.size + 1 + 1 + 1) w.heap.size A B xs.length ys.length ca cb xs ys hx hy hlx hly _ hB0.size (by simp) (by simp) (hLa.below hB0) (hLb.below hB0) bA'.cell bB.cell)
    KeepB.trans (keepB_b hB0.size (by simp) (by simp)) (Below.refl _ _) (fun _ => rfl)
    (fun pre W => Acc w.heap.size w.heap.size w0.heap.size (w0.heap.size + 1) (w0.heap.size + 1 + 1) (w0.heap.size + 1 + 1 + 1) (ys.length) (.slice A xs.length ca) (.slice B ys.length cb) w (subF pre).1 (subF pre).2 W)
    (fun _ _ _ => False)
    (acc_own _ _ _ _ _ _ _ _ _ w (fun pre => (subF pre).1) (fun pre => (subF pre).2) _ (Nat.le_refl _) hB0.size)
    (fun _ _ _ _ _ hs _ _ => hs)
    ⟨⟨_, bS', hown1, rfl⟩, bC', bA', bB, hB0⟩
    (fun x => { tmps := #[.slice A xs.length ca, .slice B ys.length cb, undef, undef, .slice none 0 0, .bool false, .pointer (some ⟨w0.heap.size, 0, none⟩), .pointer (some ⟨w0.heap.size + 1, 0, none⟩), .int .u64 (x.1.1 : Int), .int .u64 (x.1.2 : Int), undef,
      .slice A xs.length ca, .int .i64 (xs.length : Int), .slice B ys.length cb, .int .i64 (ys.length : Int), .int .i64 (ys.length : Int), .slice (some ⟨w.heap.size, 0, none⟩) 0 ys.length, .slice A xs.length ca, .slice B ys.length cb,
      .func (.func 119) #[] #[.pointer (some ⟨w0.heap.size + 1 + 1, 0, none⟩), .pointer (some ⟨w0.heap.size + 1 + 1 + 1, 0, none⟩)], .int .u64 (x.1.1 : Int), .int .u64 (x.1.2 : Int),
      undef, undef, undef, undef, undef, undef, undef, undef, undef, undef, undef, undef, undef, undef, undef, undef, undef], defers := [] }) ?assign ?body ?done ?stop
  case assign =>
    intro l x W K hK
    gi_wp2
    exact hK
  case body =>
    rintro l pre x W hA hlt
    rw [HMX.out] at hlt
    obtain ⟨i1, i2, i3, i4⟩ := subF_inv pre
    obtain ⟨⟨v, bs, row, rfl⟩, bc, ba, bb, hW⟩ := id hA
    have hc1 := bc.cell
    have hf1 := bc.frozen
    have hs1 := (bs.other (B' := w0.heap.size + 1) (by omega) (.int .u64 ((subHi x.1.1 x.1.2 (subF pre).2 : Nat) : Int))).cell
    have hF30 : Fence.wide.fn 84 := trivial
    have hsub := sub64 x.1.1 x.1.2 (subF pre).2 i1
    have row1 : (W.setCell ⟨w0.heap.size + 1, 0, none⟩ (.int .u64 ((subHi x.1.1 x.1.2 (subF pre).2 : Nat) : Int))).ownsRow w.heap.size 74 1 (.slice (some ⟨w.heap.size, 0, none⟩) (subF pre).1.length (ys.length)) (subF pre).1.length (Us (subF pre).1) :=
      row.kept (grownBy_setCell' W _ _) (.inr (fun e => by simp [Value.ownBlock] at e; omega))
    have hl2 : (subF pre).1.length < ys.length := by omega
    have I2 := Lib.hid i2
    have I4 := Lib.hid i4
    clear i2 i4 row
    gi_wp2_with (gi_at_builtin; refine wpListIn_append_fits _ rfl _ _ 69 rfl w.heap.size 74 i0 1 Tryz.underlying69 hi hz1 w.heap.size (subF pre).1.length (ys.length) _ rfl (row1.alloc _) ⟨W.heap.size, 0, none⟩ 1 1 [.int .u64 ((subLo x.1.1 x.1.2 (subF pre).2 : Nat) : Int)] rfl rfl (one_new_set _ _ _ _ _) (by simp [Value.oneCell']) (by omega) ?_; intro w1 hown' hgrow; obtain ⟨hv1, hA1, hk1, hkb⟩ := acc_step hA (by omega) (by omega) (by omega) (by omega) (by omega) (by omega) (by omega) (by omega) (by omega) (by omega) (by omega) (by omega) (Nat.le_refl _) hown' hgrow; have hc2 := hv1.cell; have hf2 := hv1.frozen)
    exact ⟨hk1.from _, hkb, by show Acc _ _ _ _ _ _ _ _ _ _ _ _ _; rw [subF_snoc]; exact hA1⟩
  case done =>
    rintro D zs W hD rfl hA hK
    obtain ⟨i1, i2, i3, i4⟩ := subF_inv (upto (pairAt xs ys hx hy) (max xs.length ys.length))
    have hbo := subF_borrow (upto (pairAt xs ys hx hy) (max xs.length ys.length))
    have ht := subF_total (upto (pairAt xs ys hx hy) (max xs.length ys.length))
    rw [upto_length, HMX.out] at i2
    rw [HMX.out] at ht i1 i3 hA hbo
    rw [av_upto xs ys hx hy _ (by omega), bv_upto xs ys hx hy _ (by omega)] at ht hbo
    generalize hL : (subF (upto (pairAt xs ys hx hy) (ys.length))).1 = L at *
    generalize hC : (subF (upto (pairAt xs ys hx hy) (ys.length))).2 = C at *
    have hle := HLE.out
    rw [if_pos (by omega)] at hbo
    subst hbo
    clear ht i2 i4 hL hC hle
    obtain ⟨⟨v, bs, row, rfl⟩, bc, ba, bb, hW⟩ := hA
    have hc1 : W.cell? ⟨w0.heap.size + 1, 0, none⟩ = some (.int .u64 1) := bc.cell
    clear bs bc ba bb
    gi_wp2
    refine ⟨by simp, .inl ⟨_, _, rfl, run_takeDeferred (w := W) hK, ?_⟩⟩
    exact ⟨_, results_tmp2 rfl _ _ _, rfl, hW.trans (belowK_b (w := w) (Nat.le_refl _) W D _ _ (by simp at hD; omega) hK rfl rfl)⟩
  case stop =>
    rintro D c pre W _ _ h _
    exact h.elim

set_option maxRecDepth 100000 in
set_option maxHeartbeats 4000000 in
theorem sub_no_ge (A B : Option Addr) (ca cb : Nat) (xs ys : List Nat) (w : World) (hLa : Lim w.heap.size w (.slice A xs.length ca) xs) (hLb : Lim w.heap.size w (.slice B ys.length cb) ys) (hlx : xs.length ≤ 1099511627776) (hly : ys.length ≤ 1099511627776) (hlg : ys.length ≤ xs.length) (hle : val xs < val ys) :
    CallsIn Fence.wide 5 Tryz.prog 86 #[.slice A xs.length ca, .slice B ys.length cb] w fun e W' => e = .returned (.tuple #[.slice none 0 0, .bool false]) ∧ Below w.heap.size w W' := by
  have hx := hLa.ok
  have hy := hLb.ok
  obtain ⟨i0, hi, hz0, hz1, hz2⟩ := info_parts infoU
  have hmx : max xs.length ys.length = xs.length := by omega
  have HMX := Lib.hid hmx
  have HLE := Lib.hid hle
  have hlB : xs.length ≤ 1099511627776 := by omega
  clear hmx hle
  refine callsIn_of_wp_marks Tryz.func86 rfl trivial ?_ rfl
  simp only [Tryz.ntmps86, List.size_toArray, List.length_cons, List.length_nil, Nat.reduceAdd, Nat.reduceSub, Array.replicate_succ, Array.replicate_zero, List.push_toArray, List.append_toArray, List.nil_append, List.cons_append]
  gi_wp2_with (first
    | (gi_at_make; refine wpListIn_make_own _ rfl _ _ 69 rfl w.heap.size 74 i0 (.int .u64 0) 1 Tryz.underlying69 hi hz0 hz1 _ _ _ (xs.length) rfl rfl (by omega) (by rw [hz2]; omega) (by unfold maxLen; omega) (by simp) ?_; intro w0 hown0 hgrow0)
    | (refine ⟨trivial, ?_⟩; gi_at_call 105; refine (side_in _ _ _ _ _ _ _ _).mono ?_; rintro e w' ⟨rfl, rfl⟩))
  have hrow0 : (w0.heap.size > w.heap.size) := by
    have := (hown0.lt (w.heap.size) (by simp [Value.ownBlock])).2
    omega
  have hB00 : Below w.heap.size w w0 := (Below.refl _ w).grown hgrow0 (by simp) (fun k e => by cases e)
  have bS := Boxed.new w0 69 (.slice (some ⟨w.heap.size, 0, none⟩) 0 xs.length)
  have bC := Boxed.new (w0.alloc (.cells #[.slice (some ⟨w.heap.size, 0, none⟩) 0 xs.length] 69)) 74 (.int .u64 0)
  rw [World.size_alloc] at bC
  have bA := Boxed.new ((w0.alloc (.cells #[.slice (some ⟨w.heap.size, 0, none⟩) 0 xs.length] 69)).alloc (.cells #[.int .u64 0] 74)) 69 (.slice A xs.length ca)
  rw [World.size_alloc, World.size_alloc] at bA
  have bB := Boxed.new (((w0.alloc (.cells #[.slice (some ⟨w.heap.size, 0, none⟩) 0 xs.length] 69)).alloc (.cells #[.int .u64 0] 74)).alloc (.cells #[.slice A xs.length ca] 69)) 69 (.slice B ys.length cb)
  rw [World.size_alloc, World.size_alloc, World.size_alloc] at bB
  have bS' := ((bS.alloc (.cells #[.int .u64 0] 74)).alloc (.cells #[.slice A xs.length ca] 69)).alloc (.cells #[.slice B ys.length cb] 69)
  have bC' := (bC.alloc (.cells #[.slice A xs.length ca] 69)).alloc (.cells #[.slice B ys.length cb] 69)
  have bA' := bA.alloc (.cells #[.slice B ys.length cb] 69)
  have hown1 := (((hown0.alloc (.cells #[.slice (some ⟨w.heap.size, 0, none⟩) 0 xs.length] 69)).alloc (.cells #[.int .u64 0] 74)).alloc (.cells #[.slice A xs.length ca] 69)).alloc (.cells #[.slice B ys.length cb] 69)
  have hB0 : Below w.heap.size w ((((w0.alloc (.cells #[.slice (some ⟨w.heap.size, 0, none⟩) 0 xs.length] 69)).alloc (.cells #[.int .u64 0] 74)).alloc (.cells #[.slice A xs.length ca] 69)).alloc (.cells #[.slice B ys.length cb] 69)) := (((hB00.alloc hB00.size _).alloc (by simp; omega) _).alloc (by simp; omega) _).alloc (by simp; omega) _
  refine wpIn_rangeFunc_ownG rfl (by omega) (gf := 119) (lb := #[.pointer (some ⟨w0.heap.size + 1 + 1, 0, none⟩), .pointer (some ⟨w0.heap.size + 1 + 1 + 1, 0, none⟩)]) rfl trivial (enters_of Tryz.func119 (by kernel_rfl) rfl)
    (side_stops (5 - 1) (by omega) (w0.heap.size + 1 + 1) (w0.heap.size + 1 + 1 + 1) w.heap.size A B xs.length ys.length ca cb xs ys hx hy hlx hly _ hB0.size (by simp) (by simp) (hLa.below hB0) (hLb.below hB0) bA'.cell bB.cell)
    KeepB.trans (keepB_b hB0.size (by simp) (by simp)) (Below.refl _ _) (fun _ => rfl)
    (fun pre W => Acc w.heap.size w.heap.size w0.heap.size (w0.heap.size + 1) (w0.heap.size + 1 + 1) (w0.heap.size + 1 + 1 + 1) (xs.length) (.slice A xs.length ca) (.slice B ys.length cb) w (subF pre).1 (subF pre).2 W)
    (fun _ _ _ => False)
    (acc_own _ _ _ _ _ _ _ _ _ w (fun pre => (subF pre).1) (fun pre => (subF pre).2) _ (Nat.le_refl _) hB0.size)
    (fun _ _ _ _ _ hs _ _ => hs)
    ⟨⟨_, bS', hown1, rfl⟩, bC', bA', bB, hB0⟩
    (fun x => { tmps := #[.slice A xs.length ca, .slice B ys.length cb, undef, undef, .slice none 0 0, .bool false, .pointer (some ⟨w0.heap.size, 0, none⟩), .pointer (some ⟨w0.heap.size + 1, 0, none⟩), .int .u64 (x.1.1 : Int), .int .u64 (x.1.2 : Int), undef,
      .slice A xs.length ca, .int .i64 (xs.length : Int), .slice B ys.length cb, .int .i64 (ys.length : Int), .int .i64 (xs.length : Int), .slice (some ⟨w.heap.size, 0, none⟩) 0 xs.length, .slice A xs.length ca, .slice B ys.length cb,
      .func (.func 119) #[] #[.pointer (some ⟨w0.heap.size + 1 + 1, 0, none⟩), .pointer (some ⟨w0.heap.size + 1 + 1 + 1, 0, none⟩)], .int .u64 (x.1.1 : Int), .int .u64 (x.1.2 : Int),
      undef, undef, undef, undef, undef, undef, undef, undef, undef, undef, undef, undef, undef, undef, undef, undef, undef], defers := [] }) ?assign ?body ?done ?stop
  case assign =>
    intro l x W K hK
    gi_wp2
    exact hK
  case body =>
    rintro l pre x W hA hlt
    rw [HMX.out] at hlt
    obtain ⟨i1, i2, i3, i4⟩ := subF_inv pre
    obtain ⟨⟨v, bs, row, rfl⟩, bc, ba, bb, hW⟩ := id hA
    have hc1 := bc.cell
    have hf1 := bc.frozen
    have hs1 := (bs.other (B' := w0.heap.size + 1) (by omega) (.int .u64 ((subHi x.1.1 x.1.2 (subF pre).2 : Nat) : Int))).cell
    have hF30 : Fence.wide.fn 84 := trivial
    have hsub := sub64 x.1.1 x.1.2 (subF pre).2 i1
    have row1 : (W.setCell ⟨w0.heap.size + 1, 0, none⟩ (.int .u64 ((subHi x.1.1 x.1.2 (subF pre).2 : Nat) : Int))).ownsRow w.heap.size 74 1 (.slice (some ⟨w.heap.size, 0, none⟩) (subF pre).1.length (xs.length)) (subF pre).1.length (Us (subF pre).1) :=
      row.kept (grownBy_setCell' W _ _) (.inr (fun e => by simp [Value.ownBlock] at e; omega))
    have hl2 : (subF pre).1.length < xs.length := by omega
    have I2 := Lib.hid i2
    have I4 := Lib.hid i4
    clear i2 i4 row
    gi_wp2_with (gi_at_builtin; refine wpListIn_append_fits _ rfl _ _ 69 rfl w.heap.size 74 i0 1 Tryz.underlying69 hi hz1 w.heap.size (subF pre).1.length (xs.length) _ rfl (row1.alloc _) ⟨W.heap.size, 0, none⟩ 1 1 [.int .u64 ((subLo x.1.1 x.1.2 (subF pre).2 : Nat) : Int)] rfl rfl (one_new_set _ _ _ _ _) (by simp [Value.oneCell']) (by omega) ?_; intro w1 hown' hgrow; obtain ⟨hv1, hA1, hk1, hkb⟩ := acc_step hA (by omega) (by omega) (by omega) (by omega) (by omega) (by omega) (by omega) (by omega) (by omega) (by omega) (by omega) (by omega) (Nat.le_refl _) hown' hgrow; have hc2 := hv1.cell; have hf2 := hv1.frozen)
    exact ⟨hk1.from _, hkb, by show Acc _ _ _ _ _ _ _ _ _ _ _ _ _; rw [subF_snoc]; exact hA1⟩
  case done =>
    rintro D zs W hD rfl hA hK
    obtain ⟨i1, i2, i3, i4⟩ := subF_inv (upto (pairAt xs ys hx hy) (max xs.length ys.length))
    have hbo := subF_borrow (upto (pairAt xs ys hx hy) (max xs.length ys.length))
    have ht := subF_total (upto (pairAt xs ys hx hy) (max xs.length ys.length))
    rw [upto_length, HMX.out] at i2
    rw [HMX.out] at ht i1 i3 hA hbo
    rw [av_upto xs ys hx hy _ (by omega), bv_upto xs ys hx hy _ (by omega)] at ht hbo
    generalize hL : (subF (upto (pairAt xs ys hx hy) (xs.length))).1 = L at *
    generalize hC : (subF (upto (pairAt xs ys hx hy) (xs.length))).2 = C at *
    have hle := HLE.out
    rw [if_pos (by omega)] at hbo
    subst hbo
    clear ht i2 i4 hL hC hle
    obtain ⟨⟨v, bs, row, rfl⟩, bc, ba, bb, hW⟩ := hA
    have hc1 : W.cell? ⟨w0.heap.size + 1, 0, none⟩ = some (.int .u64 1) := bc.cell
    clear bs bc ba bb
    gi_wp2
    refine ⟨by simp, .inl ⟨_, _, rfl, run_takeDeferred (w := W) hK, ?_⟩⟩
    exact ⟨_, results_tmp2 rfl _ _ _, rfl, hW.trans (belowK_b (w := w) (Nat.le_refl _) W D _ _ (by simp at hD; omega) hK rfl rfl)⟩
  case stop =>
    rintro D c pre W _ _ h _
    exact h.elim

end Go.Proofs.YtjnefacdindamaaGreatDoor
