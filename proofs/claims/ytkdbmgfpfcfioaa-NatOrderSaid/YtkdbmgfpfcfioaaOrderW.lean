/- lodgelaw01.NatOrder answers true, whatever two lists of limbs come in, and leaves memory below as it was. No condition. -/
import Derived.Test.YtkdbmgfpfcfioaaLaw
import Derived.Test.YtkdbmgfpfcfioaaApp
namespace Go.Proofs.Ytkdbmgfpfcfioaa
open Go.RowKit Go.Shelf Num
set_option linter.unusedVariables false

set_option maxRecDepth 100000 in
set_option maxHeartbeats 4000000 in
theorem natOrder_big (a0 a1 : Option Addr) (n0 n1 c0 c1 : Nat) (w : World) (h : ¬ (n0 ≤ 50 ∧ n1 ≤ 50)) :
    Calls Try.prog 6 #[.slice a0 n0 c0, .slice a1 n1 c1] w fun e w' => e = .returned (.bool true) ∧ Below w.heap.size w w' := by
  have HH := Lib.hid h
  clear h
  go_enter Try.func6, Try.ntmps6
  go_wp2_with fail
  refine (small_no _ _ _ _ _ _ _ HH.out).mono ?_
  rintro e w' ⟨rfl, rfl⟩
  go_wp2_with fail
  refine (awake_any _).mono ?_
  rintro e W1 ⟨rfl, hB⟩
  go_wp2
  go_ret
  exact ⟨rfl, hB⟩

/-- How far the bits from the top on have been held against each other: k are left. -/
def Ord (a b k : Nat) (t : Int) : Prop := (t = 0 ∧ a / 2 ^ k = b / 2 ^ k) ∨ (t ≠ 0 ∧ t = cmpN a b)

theorem ord_step (a b j : Nat) (h : a / 2 ^ (j + 1) = b / 2 ^ (j + 1)) : Ord a b j (((bitN a j : Nat) : Int) - ((bitN b j : Nat) : Int)) := by
  unfold Ord bitN
  rw [Nat.pow_succ, ← Nat.div_div_eq_div_mul, ← Nat.div_div_eq_div_mul] at h
  have m1 : a < b ∨ a = b ∨ b < a := by omega
  have d1 : a ≤ b → a / 2 ^ j ≤ b / 2 ^ j := fun h => Nat.div_le_div_right h
  have d2 : b ≤ a → b / 2 ^ j ≤ a / 2 ^ j := fun h => Nat.div_le_div_right h
  generalize a / 2 ^ j = A at *
  generalize b / 2 ^ j = B at *
  by_cases e : A % 2 = B % 2
  · left; exact ⟨by omega, by omega⟩
  · right
    refine ⟨by omega, ?_⟩
    rcases m1 with m | m | m
    · rw [cmpN_lt m]; have := d1 (by omega); omega
    · subst m; have h1 := d1 (Nat.le_refl _); have h2 := d2 (Nat.le_refl _); omega
    · rw [cmpN_gt m]; have := d2 (by omega); omega

theorem ord_zero {a b : Nat} {t : Int} (h : Ord a b 0 t) : t = cmpN a b := by
  rcases h with ⟨h1, h2⟩ | ⟨_, h⟩
  · have : a = b := by simpa using h2
    rw [h1, this, cmpN_eq]
  · exact h
theorem ord_ne {a b k : Nat} {t : Int} (h : Ord a b k t) (ht : t ≠ 0) : t = cmpN a b := by
  rcases h with ⟨h1, h2⟩ | ⟨_, h⟩
  · exact absurd h1 ht
  · exact h
theorem ord_start {a b k : Nat} (ha : a < 2 ^ k) (hb : b < 2 ^ k) : Ord a b k 0 := .inl ⟨rfl, by rw [Nat.div_eq_of_lt ha, Nat.div_eq_of_lt hb]⟩
theorem cmpN_bd (a b : Nat) : -1 ≤ cmpN a b ∧ cmpN a b ≤ 1 := by
  unfold cmpN
  split
  · omega
  · split <;> omega
theorem val_pow {xs : List Nat} {k : Nat} (ho : Ok xs) (h : xs.length ≤ k) : val xs < 2 ^ (64 * k) := by
  rw [← M_pow]; exact Nat.lt_of_lt_of_le (val_lt ho) (pow_mono h)
theorem val_snoc_zero (xs : List Nat) : val (xs ++ [0]) = val xs := by rw [val_snoc]; simp

set_option maxRecDepth 100000 in
set_option maxHeartbeats 8000000 in
theorem natOrder_small (a0 a1 : Option Addr) (c0 c1 : Nat) (xs ys : List Nat) (w : World) (h0 : xs.length ≤ 50) (h1 : ys.length ≤ 50)
    (La : Lim w.heap.size w (.slice a0 xs.length c0) xs) (Lb : Lim w.heap.size w (.slice a1 ys.length c1) ys) :
    Calls Try.prog 6 #[.slice a0 xs.length c0, .slice a1 ys.length c1] w fun e w' => e = .returned (.bool true) ∧ Below w.heap.size w w' := by
  obtain ⟨i0, hi, hz0, hz1, hz2⟩ := info_parts infoU
  have ox := La.ok
  have oy := Lb.ok
  go_enter Try.func6, Try.ntmps6
  go_wp2_with fail
  refine (small_yes _ _ _ _ _ _ _ h0 h1).mono ?_
  rintro e w' ⟨rfl, rfl⟩
  go_wp2_with fail
  go_loop [5, 6] (fun t i => ∃ (k : Nat) (z : Int), k ≤ 64 * max xs.length ys.length ∧ t = .int .i64 z ∧ i = .int .i64 ((k : Int) - 1) ∧ Ord (val xs) (val ys) k z ∧ -1 ≤ z ∧ z ≤ 1) (fun _ i => (intOf i + 1).toNat)
  case atStart => exact ⟨64 * max xs.length ys.length, 0, Nat.le_refl _, rfl, congrArg (Value.int .i64) (by omega), ord_start (val_pow ox (by omega)) (val_pow oy (by omega)), by omega, by omega⟩
  case round =>
    obtain ⟨k, z, hk, rfl, rfl, hO, hz1', hz2'⟩ := hrel
    have HO := Lib.hid hO
    clear hO
    by_cases hdone : k = 0 ∨ z ≠ 0
    · have hz : z = cmpN (val xs) (val ys) := by
        rcases hdone with rfl | h
        · exact ord_zero HO.out
        · exact ord_ne HO.out h
      have hq1 : (cmpN (val xs) (val ys) == z) = true := by rw [hz]; simp
      have hq2 : (cmpN (val ys) (val xs) == -z) = true := by rw [hz, cmpN_neg]; simp
      have HZ := Lib.hid hz
      clear hz
      have hrest : k = 0 ∨ (1 ≤ k ∧ z ≠ 0) := by omega
      clear hdone
      rcases hrest with rfl | ⟨hk1, hzne⟩
      · go_wp2_with fail
        refine (awake_any _).mono ?_
        rintro e W1 ⟨rfl, hb⟩
        have B1 := hb
        replace La := La.next hb
        replace Lb := Lb.next hb
        clear hb
        go_wp2_with fail
        refine (compare_any _ _ xs ys _ La Lb (by omega) (by omega)).mono ?_
        rintro e W2 ⟨rfl, hb⟩
        have B2 := B1.trans (hb.mono B1.size)
        replace La := La.next hb
        replace Lb := Lb.next hb
        clear hb B1
        go_wp2_with fail
        refine (compare_any _ _ ys xs _ Lb La (by omega) (by omega)).mono ?_
        rintro e W3 ⟨rfl, hb⟩
        have B3 := B2.trans (hb.mono B2.size)
        replace La := La.next hb
        clear hb B2 Lb
        have ow0 : (W3.alloc (.cells #[] 35)).ownsRow W3.heap.size 35 1 (.slice (some ⟨W3.heap.size, 0, none⟩) 0 0) 0 [] := World.ownsRow_lit W3 #[] 0 (Nat.le_refl _) (by unfold maxLen; omega) (by simp)
        go_wp2_with (first
          | (at_builtin; refine append_lim _ (by rfl) (.tmp 51) (.tmp 52) rfl W3.heap.size (.slice (some ⟨W3.heap.size, 0, none⟩) 0 0) 0 [] rfl ow0 _ a0 xs.length c0 xs rfl (La.alloc _) (by omega) (by simp) ?_; intro v1 w1 own1 grow1; have b1 : Below W3.heap.size W3 w1 := ((Below.refl _ _).alloc (Nat.le_refl _) _).grown grow1 (by simp) (fun k e => by simp [Value.ownBlock] at e; omega))
          | (at_builtin; refine append_lim _ (by rfl) (.tmp 53) (.tmp 54) rfl W3.heap.size v1 (0 + xs.length) ([] ++ Us xs) rfl (own1.alloc _) _ (some ⟨w1.heap.size, 0, none⟩) 1 1 [0] rfl (lim_lit1 w1 0 (small_ok (by omega))) (by omega) (by have := b1.size; simp; omega) ?_; intro v2 w2 own2 grow2; have b2 : Below W3.heap.size W3 w2 := (b1.alloc b1.size _).grown grow2 (by have := b1.size; simp; omega) (fun k e => (own1.lt k e).1)))
        have own3 : w2.ownsRow W3.heap.size 35 1 v2 (0 + xs.length + 1) (Us (xs ++ [0])) := by rw [Us_append]; exact own2
        have Lv := Lim.of_own own3 (ok_append ox (ok_one (small_ok (by omega)))) (Nat.le_refl _)
        have q := compare_any _ _ (xs ++ [0]) xs _ Lv (La.next b2) (by simp; omega) (by omega)
        rw [val_snoc_zero, cmpN_eq] at q
        refine q.mono ?_
        clear q
        rintro e W4 ⟨rfl, hb⟩
        have B4 : Below w.heap.size w W4 := (B3.trans (b2.mono B3.size)).trans (hb.mono (Nat.le_trans B3.size b2.size))
        clear hb own1 own2 own3 grow1 grow2 Lv
        go_wp2
        go_ret
        exact ⟨rfl, B4⟩
      · have hzb : (z == 0) = false := by simpa using hzne
        have hd1 : decide ((0 : Int) ≤ (k : Int) - 1) = true := decide_eq_true (by omega)
        have hd2 : decide ((1 : Int) ≤ (k : Int)) = true := decide_eq_true (by omega)
        go_wp2_with fail
        refine (awake_any _).mono ?_
        rintro e W1 ⟨rfl, hb⟩
        have B1 := hb
        replace La := La.next hb
        replace Lb := Lb.next hb
        clear hb
        go_wp2_with fail
        refine (compare_any _ _ xs ys _ La Lb (by omega) (by omega)).mono ?_
        rintro e W2 ⟨rfl, hb⟩
        have B2 := B1.trans (hb.mono B1.size)
        replace La := La.next hb
        replace Lb := Lb.next hb
        clear hb B1
        go_wp2_with fail
        refine (compare_any _ _ ys xs _ Lb La (by omega) (by omega)).mono ?_
        rintro e W3 ⟨rfl, hb⟩
        have B3 := B2.trans (hb.mono B2.size)
        replace La := La.next hb
        clear hb B2 Lb
        have ow0 : (W3.alloc (.cells #[] 35)).ownsRow W3.heap.size 35 1 (.slice (some ⟨W3.heap.size, 0, none⟩) 0 0) 0 [] := World.ownsRow_lit W3 #[] 0 (Nat.le_refl _) (by unfold maxLen; omega) (by simp)
        go_wp2_with (first
          | (at_builtin; refine append_lim _ (by rfl) (.tmp 51) (.tmp 52) rfl W3.heap.size (.slice (some ⟨W3.heap.size, 0, none⟩) 0 0) 0 [] rfl ow0 _ a0 xs.length c0 xs rfl (La.alloc _) (by omega) (by simp) ?_; intro v1 w1 own1 grow1; have b1 : Below W3.heap.size W3 w1 := ((Below.refl _ _).alloc (Nat.le_refl _) _).grown grow1 (by simp) (fun k e => by simp [Value.ownBlock] at e; omega))
          | (at_builtin; refine append_lim _ (by rfl) (.tmp 53) (.tmp 54) rfl W3.heap.size v1 (0 + xs.length) ([] ++ Us xs) rfl (own1.alloc _) _ (some ⟨w1.heap.size, 0, none⟩) 1 1 [0] rfl (lim_lit1 w1 0 (small_ok (by omega))) (by omega) (by have := b1.size; simp; omega) ?_; intro v2 w2 own2 grow2; have b2 : Below W3.heap.size W3 w2 := (b1.alloc b1.size _).grown grow2 (by have := b1.size; simp; omega) (fun k e => (own1.lt k e).1)))
        have own3 : w2.ownsRow W3.heap.size 35 1 v2 (0 + xs.length + 1) (Us (xs ++ [0])) := by rw [Us_append]; exact own2
        have Lv := Lim.of_own own3 (ok_append ox (ok_one (small_ok (by omega)))) (Nat.le_refl _)
        have q := compare_any _ _ (xs ++ [0]) xs _ Lv (La.next b2) (by simp; omega) (by omega)
        rw [val_snoc_zero, cmpN_eq] at q
        refine q.mono ?_
        clear q
        rintro e W4 ⟨rfl, hb⟩
        have B4 : Below w.heap.size w W4 := (B3.trans (b2.mono B3.size)).trans (hb.mono (Nat.le_trans B3.size b2.size))
        clear hb own1 own2 own3 grow1 grow2 Lv
        go_wp2
        go_ret
        exact ⟨rfl, B4⟩
    · obtain ⟨j, rfl⟩ : ∃ j, k = j + 1 := ⟨k - 1, by omega⟩
      obtain rfl : z = 0 := by omega
      clear hdone
      have hst := ord_step (val xs) (val ys) j (by rcases HO.out with h | h; exact h.2; exact absurd rfl h.1)
      have HS := Lib.hid hst
      have b1 := bitN_le (val xs) j
      have b2 := bitN_le (val ys) j
      clear hst HO
      have hd1 : decide ((0 : Int) ≤ ((j + 1 : Nat) : Int) - 1) = true := decide_eq_true (by omega)
      have hd2 : decide ((1 : Int) ≤ ((j + 1 : Nat) : Int)) = true := decide_eq_true (by omega)
      go_wp2_with fail
      refine (bit_any _ _ xs j _ La (by omega)).mono ?_
      rintro e w' ⟨rfl, rfl⟩
      go_wp2_with fail
      refine (bit_any _ _ ys j _ Lb (by omega)).mono ?_
      rintro e w' ⟨rfl, rfl⟩
      go_wp2
      go_round
      case rel => exact ⟨j, _, by omega, rfl, by go_num, HS.out, by omega, by omega⟩
      case measure => simp [intOf]

theorem natOrder_walk (a0 : Option Addr) (n0 c0 : Nat) (a1 : Option Addr) (n1 c1 : Nat) (w : World)
    (h0 : ∃ xs : List Nat, xs.length = n0 ∧ Lim w.heap.size w (.slice a0 n0 c0) xs) (h1 : ∃ xs : List Nat, xs.length = n1 ∧ Lim w.heap.size w (.slice a1 n1 c1) xs) :
    Calls Try.prog 6 #[.slice a0 n0 c0, .slice a1 n1 c1] w fun e w' => e = .returned (.bool true) ∧ Below w.heap.size w w' := by
  by_cases h : n0 ≤ 50 ∧ n1 ≤ 50
  · obtain ⟨xs, rfl, Lx⟩ := h0
    obtain ⟨ys, rfl, Ly⟩ := h1
    exact natOrder_small _ _ _ _ xs ys w h.1 h.2 Lx Ly
  · exact natOrder_big _ _ _ _ _ _ _ h

end Go.Proofs.Ytkdbmgfpfcfioaa
