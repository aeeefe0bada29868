/- The iterator over two numbers' limbs side by side (nat.sideBySide) by its contract: all pairs, the shorter one with noughts on top. Conditions: both slices read as limbs; lengths below 2^40; a round keeps what lay before the loop. -/
import Derived.Test.YtmbdidompjgaaaaLeaf
namespace Go.Proofs.Ytmbdidompjgaaaa
open Go.RowKit Go.Shelf Num
set_option linter.unusedVariables false
attribute [local go_sem] Oper.semAt_some

set_option maxHeartbeats 400000 in
theorem side_in (n : Nat) (A B : Option Addr) (na nb ca cb : Nat) (w : World) :
    CallsIn Fence.wide n Try.prog 48 #[.slice A na ca, .slice B nb cb] w fun e w' => e = .returned (.func (.func 64) #[] #[.pointer (some ⟨w.heap.size, 0, none⟩), .pointer (some ⟨w.heap.size + 1, 0, none⟩)]) ∧ w' = (w.alloc (.cells #[.slice A na ca] 25)).alloc (.cells #[.slice B nb cb] 25) := by
  refine callsIn_wide.2 ?_
  go_enter Try.func48, Try.ntmps48
  go_wp2
  go_ret
  exact ⟨rfl, rfl⟩

/-- A round has said 'go on', or 'no more'. -/
def Either (b : Bool) (p q : Prop) : Prop := (b = true ∧ p) ∨ (b = false ∧ q)

set_option maxRecDepth 100000 in
set_option maxHeartbeats 2000000 in
theorem side1_in (n : Nat) (hn : 1 ≤ n) (l Ba Bb n₀ : Nat) (A B : Option Addr) (na nb ca cb : Nat) (xs ys : List Nat) (hx : Ok xs) (hy0 : Ok ys) (hlx : xs.length ≤ 1099511627776) (hly : ys.length ≤ 1099511627776) (J Jx : List Pair → World → Prop)
    (W : World) (hJ : AbidesFrom W.heap.size J)
    (hY : ∀ pre (x : Pair) W, J pre W → pre.length < max xs.length ys.length → YieldAt Fence.wide (n - 1) Try.prog l #[.int .u64 (x.1.1 : Int), .int .u64 (x.1.2 : Int)] W fun e W' =>
      (e = .returned (.bool true) ∧ J (pre ++ [x]) W' ∧ KeepB n₀ Ba Bb W W') ∨ (e = .returned (.bool false) ∧ Jx (pre ++ [x]) W'))
    (hLa : Lim n₀ W (.slice A na ca) xs) (hLb : Lim n₀ W (.slice B nb cb) ys)
    (ha : W.cell? ⟨Ba, 0, none⟩ = some (.slice A na ca)) (hb : W.cell? ⟨Bb, 0, none⟩ = some (.slice B nb cb)) (h0 : J [] W) :
    CallsIn Fence.wide n Try.prog 64 #[.func (.yield l) #[] #[], .pointer (some ⟨Ba, 0, none⟩), .pointer (some ⟨Bb, 0, none⟩)] W fun e W' => (∃ v, e = .returned v) ∧
      ((∃ zs, zs = upto (pairAt xs ys hx hy0) (max xs.length ys.length) ∧ J zs W') ∨ (∃ pre, (∃ k, k ≤ max xs.length ys.length ∧ pre = upto (pairAt xs ys hx hy0) k) ∧ Jx pre W')) := by
  obtain rfl := hLa.len
  obtain rfl := hLb.len
  refine callsIn_of_wp Try.func64 rfl trivial ?_ rfl
  simp only [Try.ntmps64, List.size_toArray, List.length_cons, List.length_nil, Nat.reduceAdd, Nat.reduceSub, Array.replicate_succ, Array.replicate_zero, List.push_toArray, List.append_toArray, List.nil_append, List.cons_append]
  rcases Nat.lt_or_ge xs.length ys.length with hlg | hlg
  · have hmx : max xs.length ys.length = ys.length := by omega
    rw [hmx] at hY ⊢
    have hB9 : xs.length ≤ ys.length ∧ ys.length ≤ ys.length := by omega
    have hbd : ys.length ≤ 1099511627776 := by omega
    clear hmx hlx hly
    gi_wp2
    gi_loopw [10] (fun i wr => ∃ k : Nat, k ≤ ys.length ∧ i = .int .i64 k ∧ J (upto (pairAt xs ys hx hy0) k) wr ∧ KeepB n₀ Ba Bb W wr)
      (fun i _ => ys.length - (intOf i).toNat)
    case atStart => exact ⟨0, Nat.zero_le _, rfl, h0, KeepB.refl _ _ _ _⟩
    case round =>
      obtain ⟨k, hk, rfl, hJs, hnx⟩ := hrel
      by_cases hlt : k < ys.length
      · obtain ⟨fn, tmps, assign, body, hy, hR⟩ := hY _ (pairAt xs ys hx hy0 k) wr.drew (hJ _ _ _ none hJs (grown_drew wr none) (fun _ h => by cases h)) (by rw [upto_length]; exact hlt)
        have hR2 := hR.mono (R' := fun e W' => ∃ b, e = .returned (.bool b) ∧ Either b (J (upto (pairAt xs ys hx hy0) k ++ [pairAt xs ys hx hy0 k]) W' ∧ KeepB n₀ Ba Bb wr.drew W') (Jx (upto (pairAt xs ys hx hy0) k ++ [pairAt xs ys hx hy0 k]) W')) (by
          rintro e W' (⟨rfl, h1, h2⟩ | ⟨rfl, h1⟩)
          · exact ⟨true, rfl, .inl ⟨rfl, h1, h2⟩⟩
          · exact ⟨false, rfl, .inr ⟨rfl, h1⟩⟩)
        clear hY hR
        dsimp only [pairAt] at hy
        have hd : decide (k < ys.length) = true := by simpa using hlt
        have ha' := hnx.2.1.trans ha
        have hb' := hnx.2.2.trans hb
        have hA' := hLa.below hnx.1
        have hB' := hLb.below hnx.1
        have HN := Lib.hid hnx
        clear ha hb hLa hLb hnx
        gi_wp2
        gi_region_with (first | (refine ⟨trivial, ?_⟩; gi_at_call 65; refine (callsIn_wide.2 (limbAt_any n₀ _ _ k _ (by first | exact hA' | exact hB'))).mono ?_; rintro e w' ⟨rfl, rfl⟩) | (refine hR2.mono ?_; rintro e W3 ⟨b, rfl, hE⟩))
        all_goals
          rcases hE with ⟨rfl, hJ3, hk3⟩ | ⟨rfl, hJx3⟩
          · gi_wp2
            go_roundw
            case rel => exact ⟨k + 1, by omega, by go_num, by rw [upto_succ]; exact hJ3, HN.out.trans (KeepB.drew.trans hk3)⟩
            case measure => simp [intOf]; omega
          · gi_wp2
            refine bodyPost_ret (results_none rfl _ _ _) rfl ?_
            exact ⟨⟨_, rfl⟩, .inr ⟨_, ⟨k + 1, by omega, (upto_succ _ _).symm⟩, hJx3⟩⟩
      · obtain rfl : k = ys.length := by omega
        have hd : decide (ys.length < ys.length) = false := by simp
        gi_wp2
        go_end0
        exact ⟨⟨_, rfl⟩, .inl ⟨_, rfl, hJs⟩⟩
  · have hmx : max xs.length ys.length = xs.length := by omega
    rw [hmx] at hY ⊢
    have hB9 : xs.length ≤ xs.length ∧ ys.length ≤ xs.length := by omega
    have hbd : xs.length ≤ 1099511627776 := by omega
    clear hmx hlx hly
    gi_wp2
    gi_loopw [10] (fun i wr => ∃ k : Nat, k ≤ xs.length ∧ i = .int .i64 k ∧ J (upto (pairAt xs ys hx hy0) k) wr ∧ KeepB n₀ Ba Bb W wr)
      (fun i _ => xs.length - (intOf i).toNat)
    case atStart => exact ⟨0, Nat.zero_le _, rfl, h0, KeepB.refl _ _ _ _⟩
    case round =>
      obtain ⟨k, hk, rfl, hJs, hnx⟩ := hrel
      by_cases hlt : k < xs.length
      · obtain ⟨fn, tmps, assign, body, hy, hR⟩ := hY _ (pairAt xs ys hx hy0 k) wr.drew (hJ _ _ _ none hJs (grown_drew wr none) (fun _ h => by cases h)) (by rw [upto_length]; exact hlt)
        have hR2 := hR.mono (R' := fun e W' => ∃ b, e = .returned (.bool b) ∧ Either b (J (upto (pairAt xs ys hx hy0) k ++ [pairAt xs ys hx hy0 k]) W' ∧ KeepB n₀ Ba Bb wr.drew W') (Jx (upto (pairAt xs ys hx hy0) k ++ [pairAt xs ys hx hy0 k]) W')) (by
          rintro e W' (⟨rfl, h1, h2⟩ | ⟨rfl, h1⟩)
          · exact ⟨true, rfl, .inl ⟨rfl, h1, h2⟩⟩
          · exact ⟨false, rfl, .inr ⟨rfl, h1⟩⟩)
        clear hY hR
        dsimp only [pairAt] at hy
        have hd : decide (k < xs.length) = true := by simpa using hlt
        have ha' := hnx.2.1.trans ha
        have hb' := hnx.2.2.trans hb
        have hA' := hLa.below hnx.1
        have hB' := hLb.below hnx.1
        have HN := Lib.hid hnx
        clear ha hb hLa hLb hnx
        gi_wp2
        gi_region_with (first | (refine ⟨trivial, ?_⟩; gi_at_call 65; refine (callsIn_wide.2 (limbAt_any n₀ _ _ k _ (by first | exact hA' | exact hB'))).mono ?_; rintro e w' ⟨rfl, rfl⟩) | (refine hR2.mono ?_; rintro e W3 ⟨b, rfl, hE⟩))
        all_goals
          rcases hE with ⟨rfl, hJ3, hk3⟩ | ⟨rfl, hJx3⟩
          · gi_wp2
            go_roundw
            case rel => exact ⟨k + 1, by omega, by go_num, by rw [upto_succ]; exact hJ3, HN.out.trans (KeepB.drew.trans hk3)⟩
            case measure => simp [intOf]; omega
          · gi_wp2
            refine bodyPost_ret (results_none rfl _ _ _) rfl ?_
            exact ⟨⟨_, rfl⟩, .inr ⟨_, ⟨k + 1, by omega, (upto_succ _ _).symm⟩, hJx3⟩⟩
      · obtain rfl : k = xs.length := by omega
        have hd : decide (xs.length < xs.length) = false := by simp
        gi_wp2
        go_end0
        exact ⟨⟨_, rfl⟩, .inl ⟨_, rfl, hJs⟩⟩

/-- What sideBySide hands back goes through all pairs, or stops behind some. -/
theorem side_stops (n : Nat) (hn : 1 ≤ n) (Ba Bb n₀ : Nat) (A B : Option Addr) (na nb ca cb : Nat) (xs ys : List Nat) (hx : Ok xs) (hy0 : Ok ys) (hlx : xs.length ≤ 1099511627776) (hly : ys.length ≤ 1099511627776) (w : World)
    (hn₀ : n₀ ≤ w.heap.size) (hBa : Ba < w.heap.size) (hBb : Bb < w.heap.size) (hLa : Lim n₀ w (.slice A na ca) xs) (hLb : Lim n₀ w (.slice B nb cb) ys)
    (ha : w.cell? ⟨Ba, 0, none⟩ = some (.slice A na ca)) (hb : w.cell? ⟨Bb, 0, none⟩ = some (.slice B nb cb)) :
    SeqStopsK Fence.wide n Try.prog 64 #[.pointer (some ⟨Ba, 0, none⟩), .pointer (some ⟨Bb, 0, none⟩)] (fun x : Pair => #[.int .u64 (x.1.1 : Int), .int .u64 (x.1.2 : Int)]) (KeepB n₀ Ba Bb)
      (fun zs => zs = upto (pairAt xs ys hx hy0) (max xs.length ys.length)) (fun pre => ∃ k, k ≤ max xs.length ys.length ∧ pre = upto (pairAt xs ys hx hy0) k) (max xs.length ys.length) w := fun l J Jx W hW hJ _ hY h0 =>
  side1_in n hn l Ba Bb n₀ A B na nb ca cb xs ys hx hy0 hlx hly J Jx W hJ hY (hLa.below (hW.mono hn₀)) (hLb.below (hW.mono hn₀)) ((hW.cell (p := ⟨Ba, 0, none⟩) hBa).trans ha) ((hW.cell (p := ⟨Bb, 0, none⟩) hBb).trans hb) h0

end Go.Proofs.Ytmbdidompjgaaaa
