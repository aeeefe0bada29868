import Derived.Test.YtjnefacdindamaaGreatDoorLeafA
import Derived.Laws.AppendOwnNone
import Derived.WalkSmall
/- What the functions of package nat answer: Trim, Compare, Add, Sub, Double, Bit, by the numbers that the limbs are; memory below is left as it was. Conditions: the slices read as limbs; lengths below 2^40. -/

namespace Go.Proofs.YtjnefacdindamaaGreatDoor
open Go.RowKit Go.Shelf Num
set_option linter.unusedVariables false
set_option maxRecDepth 100000

/-- What a call that answers a number leaves: the number's limbs, in memory of its own. -/
def Gives (n : Nat) (w : World) (e : Ending) (W' : World) : Prop := ∃ v, e = .returned v ∧ Lim W'.heap.size W' v (limbs n) ∧ Below w.heap.size w W'

theorem compare_any (v u : Value) (xs ys : List Nat) (w : World) (hLa : Lim w.heap.size w v xs) (hLb : Lim w.heap.size w u ys) (hlx : xs.length ≤ 1099511627776) (hly : ys.length ≤ 1099511627776) :
    Calls Tryz.prog 120 #[v, u] w fun e W' => e = .returned (.int .i64 (cmpN (val xs) (val ys))) ∧ Below w.heap.size w W' := by
  obtain ⟨A, ca, rfl, _⟩ := id hLa
  obtain ⟨B, cb, rfl, _⟩ := id hLb
  exact callsIn_wide.1 (compare_in A B _ _ ca cb xs ys w hLa hLb hlx hly)

theorem addCarry_any (v u : Value) (c : Nat) (xs ys : List Nat) (w : World) (hLa : Lim w.heap.size w v xs) (hLb : Lim w.heap.size w u ys) (hlx : xs.length ≤ 1099511627776) (hly : ys.length ≤ 1099511627776) (hc : c ≤ 1) :
    Calls Tryz.prog 108 #[v, u, .int .u64 (c : Int)] w (Gives (val xs + val ys + c) w) := by
  obtain ⟨A, ca, rfl, _⟩ := id hLa
  obtain ⟨B, cb, rfl, _⟩ := id hLb
  rcases Nat.lt_or_ge xs.length ys.length with h | h
  · exact callsIn_wide.1 (addCarry_lt A B ca cb c xs ys w hLa hLb hlx hly hc h)
  · exact callsIn_wide.1 (addCarry_ge A B ca cb c xs ys w hLa hLb hlx hly hc h)

theorem sub_yes (v u : Value) (xs ys : List Nat) (w : World) (hLa : Lim w.heap.size w v xs) (hLb : Lim w.heap.size w u ys) (hlx : xs.length ≤ 1099511627776) (hly : ys.length ≤ 1099511627776) (hle : val ys ≤ val xs) :
    Calls Tryz.prog 86 #[v, u] w fun e W' => ∃ r, e = .returned (.tuple #[r, .bool true]) ∧ Lim W'.heap.size W' r (limbs (val xs - val ys)) ∧ Below w.heap.size w W' := by
  obtain ⟨A, ca, rfl, _⟩ := id hLa
  obtain ⟨B, cb, rfl, _⟩ := id hLb
  rcases Nat.lt_or_ge xs.length ys.length with h | h
  · exact callsIn_wide.1 (sub_yes_lt A B ca cb xs ys w hLa hLb hlx hly h hle)
  · exact callsIn_wide.1 (sub_yes_ge A B ca cb xs ys w hLa hLb hlx hly h hle)

theorem sub_no (v u : Value) (xs ys : List Nat) (w : World) (hLa : Lim w.heap.size w v xs) (hLb : Lim w.heap.size w u ys) (hlx : xs.length ≤ 1099511627776) (hly : ys.length ≤ 1099511627776) (hle : val xs < val ys) :
    Calls Tryz.prog 86 #[v, u] w fun e W' => e = .returned (.tuple #[.slice none 0 0, .bool false]) ∧ Below w.heap.size w W' := by
  obtain ⟨A, ca, rfl, _⟩ := id hLa
  obtain ⟨B, cb, rfl, _⟩ := id hLb
  rcases Nat.lt_or_ge xs.length ys.length with h | h
  · exact callsIn_wide.1 (sub_no_lt A B ca cb xs ys w hLa hLb hlx hly h hle)
  · exact callsIn_wide.1 (sub_no_ge A B ca cb xs ys w hLa hLb hlx hly h hle)

set_option maxHeartbeats 400000 in
theorem add_any (v u : Value) (xs ys : List Nat) (w : World) (hLa : Lim w.heap.size w v xs) (hLb : Lim w.heap.size w u ys) (hlx : xs.length ≤ 1099511627776) (hly : ys.length ≤ 1099511627776) :
    Calls Tryz.prog 90 #[v, u] w (Gives (val xs + val ys) w) := by
  obtain ⟨A, ca, rfl, _⟩ := id hLa
  obtain ⟨B, cb, rfl, _⟩ := id hLb
  go_enter Tryz.func90, Tryz.ntmps90
  go_wp2_with fail
  refine (addCarry_any _ _ 0 xs ys _ hLa hLb hlx hly (by omega)).mono ?_
  rintro e W' ⟨r, rfl, hR, hB⟩
  go_wp2
  go_ret
  exact ⟨r, rfl, by simpa using hR, hB⟩

theorem lim_cells {n₀ : Nat} {w : World} {ad : Addr} {n cap : Nat} {xs : List Nat} (h : Lim n₀ w (.slice (some ad) n cap) xs) (k : Nat) (hk : k ≤ xs.length) : ∀ j u, (Us (xs.take k))[j]? = some u → w.cell? (ad.add j) = some u := by
  intro j u hj
  obtain ⟨A, cap', hv, _, _, _, hr⟩ := h.take k hk
  injection hv with h1 h2 h3
  have hj' : j < (xs.take k).length := by
    have := (List.getElem?_eq_some_iff.1 hj).1
    simpa [Us_length] using this
  obtain ⟨b, off, hA, _, hc⟩ := hr (by omega)
  rw [hA] at h1
  injection h1 with h1
  subst h1
  have h4 := hc j hj'
  have h5 : u = .int .u64 ((lat (xs.take k) j : Nat) : Int) := by
    have h6 : (Us (xs.take k))[j]? = some (.int .u64 ((lat (xs.take k) j : Nat) : Int)) := by
      rw [lat_lt hj']
      simp only [Us, List.getElem?_map, List.getElem?_eq_getElem hj', Option.map_some]
    rw [h6] at hj
    injection hj with hj
    exact hj.symm
  rw [h5]
  rcases Nat.eq_zero_or_pos j with rfl | h0
  · simpa [Addr.add] using h4
  · simpa [Addr.add, show j ≠ 0 from by omega] using h4

set_option maxHeartbeats 1000000 in
theorem trim_any (v : Value) (xs : List Nat) (w : World) (hL : Lim w.heap.size w v xs) (hlx : xs.length ≤ 1099511627776) :
    Calls Tryz.prog 93 #[v] w (Gives (val xs) w) := by
  obtain ⟨i0, hi, hz0, hz1, hz2⟩ := info_parts infoU
  have ho := hL.ok
  have hh := hgt_le xs
  have HT := Lib.hid (limbs_val ho)
  obtain ⟨A, ca, rfl, hca, hn, _⟩ := id hL
  cases A with
  | none =>
    have hx : xs = [] := by
      obtain ⟨A', c', hv, hc', hz, _⟩ := hL
      injection hv with h1 h2 h3
      have := hz h1.symm
      exact List.eq_nil_of_length_eq_zero (by omega)
    subst hx
    have hc0 : ca = 0 := hn rfl
    subst hc0
    go_enter Tryz.func93, Tryz.ntmps93
    go_wp2_with (first
      | (go_at_call 106; refine (height_any _ _ [] _ hL (by simp)).mono ?_; rintro e w' ⟨rfl, rfl⟩)
      | (at_builtin; refine wpList_append_own_none rfl _ _ 69 rfl w.heap.size 74 i0 1 Tryz.underlying69 hi _ 0 [] rfl (World.ownsRow_nil _ _ _ _) rfl ?_))
    go_ret
    exact ⟨_, rfl, by rw [HT.out]; exact Lim.nil _ _, Below.refl _ _⟩
  | some ad =>
    have hhI : ((hgt xs : Nat) : Int) ≤ (ca : Int) := by omega
    have hhN : hgt xs ≤ ca := by omega
    have hd3 : decide (((hgt xs : Nat) : Int) < 0) = false := by simp
    go_enter Tryz.func93, Tryz.ntmps93
    go_wp2_with (first
      | (go_at_call 106; refine (height_any _ _ xs _ hL (by omega)).mono ?_; rintro e w' ⟨rfl, rfl⟩)
      | (at_builtin; refine wpList_append_own _ rfl _ _ 69 rfl w.heap.size 74 i0 (.int .u64 0) 1 8 Tryz.underlying69 hi hz0 hz1 hz2 rfl (by decide) (.slice none 0 0) 0 [] rfl (World.ownsRow_nil _ _ _ _) ad (hgt xs) ca (Us (xs.take (hgt xs))) rfl (by rw [Us_length]; simp; omega) (lim_cells hL _ hh) (Us_cell _) (by unfold maxLen; omega) (by omega) (Nat.le_refl _) ?_; intro v' w1 hown' hgrow _))
    go_ret
    exact ⟨v', rfl, by rw [HT.out, ← trim_take]; exact Lim.of_own (by simpa using hown') (ok_take ho _) (Nat.le_refl _), (Below.refl _ _).grown hgrow (Nat.le_refl _) (by simp [Value.ownBlock])⟩

set_option maxHeartbeats 1000000 in
theorem bit_neg (A : Option Addr) (n c : Nat) (i : Int) (w : World) (hi : i < 0) :
    Calls Tryz.prog 95 #[.slice A n c, .int .i64 i] w fun e w' => e = .returned (.int .i64 0) ∧ w = w' := by
  go_enter Tryz.func95, Tryz.ntmps95
  go_wp2
  go_ret
  exact ⟨rfl, rfl⟩

theorem bit_form (x j : Nat) (hx : x < M) : wrap64 (bits BinOp.and IntKind.u64 ((x : Int) / 2 ^ j) 1) = ((bitN x j : Nat) : Int) := by
  have e : ((x : Int) / 2 ^ j) = ((x / 2 ^ j : Nat) : Int) := by
    rw [Int.natCast_ediv, Int.natCast_pow]; rfl
  have h1 : x / 2 ^ j ≤ x := Nat.div_le_self _ _
  unfold M at hx
  rw [e]
  unfold bitN
  generalize x / 2 ^ j = q at *
  rw [and_one_u64 _ (by omega) (by omega)]
  unfold wrap64
  omega

set_option maxHeartbeats 1000000 in
theorem bit_any (n₀ : Nat) (v : Value) (xs : List Nat) (k : Nat) (w : World) (hL : Lim n₀ w v xs) (hk : (k : Int) ≤ 9223372036854775807) :
    Calls Tryz.prog 95 #[v, .int .i64 (k : Int)] w fun e w' => e = .returned (.int .i64 ((bitN (val xs) k : Nat) : Int)) ∧ w = w' := by
  have ho := hL.ok
  have HB := Lib.hid (bitN_limb xs ho k)
  obtain ⟨A, ca, rfl, _⟩ := id hL
  go_enter Tryz.func95, Tryz.ntmps95
  go_wp2_with fail
  have e1 : (k : Int) / 64 = ((k / 64 : Nat) : Int) := by omega
  rw [e1]
  refine (limbAt_any n₀ _ xs (k / 64) _ hL).mono ?_
  rintro e w' ⟨rfl, rfl⟩
  clear e1
  go_wp2
  go_ret
  exact ⟨ret_int (by rw [← HB.out]; exact bit_form _ _ (ok_get ho _)), rfl⟩

theorem low_bit (b : Int) : bits BinOp.and IntKind.u64 (IntKind.u64.wrap b) 1 = (((b % 2).toNat : Nat) : Int) := by
  have e : IntKind.u64.wrap b = b % 18446744073709551616 := by simp [IntKind.wrap, IntKind.bits, IntKind.signed]
  rw [e, and_one_u64 _ (by omega) (by omega)]
  omega


end Go.Proofs.YtjnefacdindamaaGreatDoor
