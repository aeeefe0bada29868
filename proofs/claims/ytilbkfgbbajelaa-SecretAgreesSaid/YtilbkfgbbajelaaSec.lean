/- The functions of package secret: Right, Reduce, Blind, Agree, by the numbers that the texts are. Conditions: Reduce, Blind, Agree are asked of texts of at most four thousand bytes. -/
import Derived.Test.YtilbkfgbbajelaaElem
import Derived.Test.YtilbkfgbbajelaaNumA
import Derived.Test.YtilbkfgbbajelaaOctT
import Derived.Test.YtilbkfgbbajelaaOctS
namespace Go.Proofs.Ytilbkfgbbajelaa
open Go.RowKit Go.Shelf Num
set_option linter.unusedVariables false

/-- The text of a number, whole. -/
@[irreducible] def txt (n : Nat) : ByteArray := ⟨(byts n).toArray⟩
theorem txt_is (n : Nat) : txt n = ⟨(byts n).toArray⟩ := by unfold txt; rfl
theorem txt_data (n : Nat) : (txt n).data.toList = byts n := by rw [txt_is]
theorem txt_size (n : Nat) : (txt n).size = nbyt n := by rw [size_data, txt_data, byts_length]
theorem txt_val (n : Nat) : bval (txt n).data.toList = n := by rw [txt_data, bval_bytes]
theorem two_limbs : limbs 2 = [2] := limbs_1 (by omega) (by omega)
theorem lit_two (w : World) : Lim (w.alloc (.cells #[.int .u64 2] 32)).heap.size (w.alloc (.cells #[.int .u64 2] 32)) (.slice (some ⟨w.heap.size, 0, none⟩) 1 1) (limbs 2) := by
  rw [two_limbs]
  exact lim_lit1 w 2 (under (by omega))
theorem two_len : (limbs 2).length = 1 := by rw [two_limbs]; rfl
theorem mod_len {n g : Nat} (k : Nat) (h0 : g ≠ 0) (h : g < M ^ k) : (limbs (n % g)).length ≤ k := limbs_len (Nat.lt_trans (Nat.mod_lt _ (by omega)) h)
theorem bytes_len (s : ByteArray) (h : s.size ≤ 4000) : (limbs (bval s.data.toList)).length ≤ 500 := limbs_len_bytes s.data.toList (k := 500) (by rw [← size_data]; omega)

theorem compareN (v u : Value) (a b : Nat) (w : World) (hLa : Lim w.heap.size w v (limbs a)) (hLb : Lim w.heap.size w u (limbs b)) (hlx : (limbs a).length ≤ 34359738368) (hly : (limbs b).length ≤ 34359738368) :
    Calls Try.prog 29 #[v, u] w (fun e W' => e = .returned (.int .i64 (cmpN a b)) ∧ Below w.heap.size w W') := by
  have h := compare_any v u (limbs a) (limbs b) w hLa hLb (by omega) (by omega)
  rwa [val_limbs, val_limbs] at h
theorem addN (v u : Value) (a b : Nat) (w : World) (hLa : Lim w.heap.size w v (limbs a)) (hLb : Lim w.heap.size w u (limbs b)) (hlx : (limbs a).length ≤ 34359738368) (hly : (limbs b).length ≤ 34359738368) :
    Calls Try.prog 36 #[v, u] w (Gives (a + b) w) := by
  have h := add_any v u (limbs a) (limbs b) w hLa hLb (by omega) (by omega)
  rwa [val_limbs, val_limbs] at h
theorem subN (v u : Value) (a b : Nat) (w : World) (hLa : Lim w.heap.size w v (limbs a)) (hLb : Lim w.heap.size w u (limbs b)) (hlx : (limbs a).length ≤ 34359738368) (hly : (limbs b).length ≤ 34359738368) (hle : b ≤ a) :
    Calls Try.prog 33 #[v, u] w (fun e W' => ∃ r, e = .returned (.tuple #[r, .bool true]) ∧ Lim W'.heap.size W' r (limbs (a - b)) ∧ Below w.heap.size w W') := by
  have h := sub_yes v u (limbs a) (limbs b) w hLa hLb (by omega) (by omega) (by rw [val_limbs, val_limbs]; exact hle)
  rwa [val_limbs, val_limbs] at h
theorem subN_no (v u : Value) (a b : Nat) (w : World) (hLa : Lim w.heap.size w v (limbs a)) (hLb : Lim w.heap.size w u (limbs b)) (hlx : (limbs a).length ≤ 34359738368) (hly : (limbs b).length ≤ 34359738368) (hlt : a < b) :
    Calls Try.prog 33 #[v, u] w (fun e W' => e = .returned (.tuple #[.slice none 0 0, .bool false]) ∧ Below w.heap.size w W') :=
  sub_no v u (limbs a) (limbs b) w hLa hLb (by omega) (by omega) (by rw [val_limbs, val_limbs]; exact hlt)
theorem restN (v u : Value) (a b : Nat) (w : World) (hLa : Lim w.heap.size w v (limbs a)) (hLb : Lim w.heap.size w u (limbs b)) (hlx : (limbs a).length ≤ 34359738368) (hly : (limbs b).length ≤ 34359738368) (h0 : b ≠ 0) :
    Calls Try.prog 34 #[v, u] w (GivesOk (a % b) w) := by
  have h := rest_any v u (limbs a) (limbs b) w hLa hLb (by omega) (by omega) (by rw [val_limbs]; exact h0)
  rwa [val_limbs, val_limbs] at h
theorem powerN (v u z : Value) (a b c : Nat) (w : World) (hLa : Lim w.heap.size w v (limbs a)) (hLb : Lim w.heap.size w u (limbs b)) (hLc : Lim w.heap.size w z (limbs c)) (hlx : (limbs a).length ≤ 34359738368) (hly : (limbs b).length ≤ 34359738368) (hlz : (limbs c).length ≤ 34359738368) (h0 : c ≠ 0) :
    Calls Try.prog 57 #[v, u, z] w (GivesOk (pm a b c) w) := by
  have h := power_any v u z (limbs a) (limbs b) (limbs c) w hLa hLb hLc (by omega) (by omega) (by omega) (by rw [val_limbs]; exact h0)
  rwa [val_limbs, val_limbs, val_limbs] at h
theorem powerN_no (v u z : Value) (a b c : Nat) (w : World) (hLa : Lim w.heap.size w v (limbs a)) (hLb : Lim w.heap.size w u (limbs b)) (hLc : Lim w.heap.size w z (limbs c)) (hlx : (limbs a).length ≤ 34359738368) (hly : (limbs b).length ≤ 34359738368) (hlz : (limbs c).length ≤ 34359738368) (h0 : c = 0) :
    Calls Try.prog 57 #[v, u, z] w (GivesNo w) :=
  power_zero v u z (limbs a) (limbs b) (limbs c) w hLa hLb hLc (by omega) (by omega) (by omega) (by rw [val_limbs]; exact h0)
theorem toN (v : Value) (a : Nat) (w : World) (hL : Lim w.heap.size w v (limbs a)) (hlx : (limbs a).length ≤ 34359738368) :
    Calls Try.prog 35 #[v] w fun e W' => e = .returned (.string (txt a)) ∧ Below w.heap.size w W' := by
  have h := to_any v (limbs a) w hL (by omega)
  rwa [val_limbs, ← txt_is] at h
theorem toN_nil (w : World) :
    Calls Try.prog 35 #[.slice none 0 0] w fun e W' => e = .returned (.string (txt 0)) ∧ Below w.heap.size w W' :=
  toN _ 0 w (by rw [limbs_zero]; exact Lim.nil _ _) (by rw [limbs_zero]; simp)

set_option maxHeartbeats 1000000 in
theorem least_any (w : World) : Calls Try.prog 30 #[] w (Gives 2 w) := by
  go_enter Try.func30, Try.ntmps30
  go_wp2
  go_ret
  exact ⟨_, rfl, lit_two w, al1 (Below.refl _ w) _⟩

theorem sec_no {g : Int} {l : List UInt8} (h : ¬ (P g ≠ 0 ∧ l.length ≤ 400 ∧ whole l = true ∧ 2 ≤ bval l ∧ bval l < P g / 2)) : Ending.returned (.bool false) = .returned (.bool (isS g l)) := ret_bool (isS_no h).symm
theorem isG_P {g : Int} : isG g = true → P g ≠ 0 := fun h => by unfold isG at h; simpa using h
theorem isG_no {g : Int} : isG g = false → P g = 0 := fun h => by unfold isG at h; simpa using h
theorem cmp_lt {a b : Nat} (h : a < b) : decide (cmpN a b < 0) = true := by rw [cmpN_lt h]; rfl
theorem cmp_nlt {a b : Nat} (h : b ≤ a) : decide (cmpN a b < 0) = false := decide_eq_false (by
  unfold cmpN
  rw [if_neg (by omega)]
  split <;> decide)
theorem rright (g : Int) (b : Bool) (w : World) (h : isG g = b) : Calls Try.prog 26 #[.int .i64 g] w fun e W => e = .returned (.bool b) ∧ Below w.heap.size w W := by
  have k := right_any g w
  rwa [h] at k
theorem wwhole (s : ByteArray) (b : Bool) (w : World) (h : whole s.data.toList = b) : Calls Try.prog 27 #[.string s] w fun e W => e = .returned (.bool b) ∧ Below w.heap.size w W := by
  have k := whole_any s w
  rw [h] at k
  exact k.mono fun e W ⟨he, hw⟩ => ⟨he, by subst hw; exact Below.refl _ _⟩

set_option maxRecDepth 100000 in
set_option maxHeartbeats 800000 in
theorem sright_none (g : Int) (s : ByteArray) (w : World) (hG : isG g = false) :
    Calls Try.prog 8 #[.int .i64 g, .string s] w (fun e W => e = .returned (.bool (isS g s.data.toList)) ∧ Below w.heap.size w W) := by
  have hP := isG_no hG
  go_enter Try.func8, Try.ntmps8
  have B := Below.refl w.heap.size w
  go_wp2_with fail
  refine (rright g false _ hG).mono ?_
  rintro e W1 ⟨rfl, hb⟩
  replace B := B.trans (hb.mono B.size)
  clear hb
  go_wp2
  go_ret
  exact ⟨sec_no (fun h => h.1 hP), B⟩

set_option maxRecDepth 100000 in
set_option maxHeartbeats 800000 in
theorem sright_long (g : Int) (s : ByteArray) (w : World) (hG : isG g = true) (hl : ¬ s.size ≤ 400) :
    Calls Try.prog 8 #[.int .i64 g, .string s] w (fun e W => e = .returned (.bool (isS g s.data.toList)) ∧ Below w.heap.size w W) := by
  have d : decide (400 < (s.size : Int)) = true := decide_eq_true (by omega)
  go_enter Try.func8, Try.ntmps8
  have B := Below.refl w.heap.size w
  go_wp2_with fail
  refine (rright g true _ hG).mono ?_
  rintro e W1 ⟨rfl, hb⟩
  replace B := B.trans (hb.mono B.size)
  clear hb
  go_wp2
  go_ret
  exact ⟨sec_no (fun h => hl (by rw [size_data]; exact h.2.1)), B⟩

set_option maxRecDepth 100000 in
set_option maxHeartbeats 800000 in
theorem sright_part (g : Int) (s : ByteArray) (w : World) (hG : isG g = true) (hl : s.size ≤ 400) (hW : whole s.data.toList = false) :
    Calls Try.prog 8 #[.int .i64 g, .string s] w (fun e W => e = .returned (.bool (isS g s.data.toList)) ∧ Below w.heap.size w W) := by
  have d : decide (400 < (s.size : Int)) = false := decide_eq_false (by omega)
  go_enter Try.func8, Try.ntmps8
  have B := Below.refl w.heap.size w
  go_wp2_with fail
  refine (rright g true _ hG).mono ?_
  rintro e W1 ⟨rfl, hb⟩
  replace B := B.trans (hb.mono B.size)
  clear hb
  go_wp2_with fail
  refine (wwhole s false _ hW).mono ?_
  rintro e W2 ⟨rfl, hb⟩
  replace B := B.trans (hb.mono B.size)
  clear hb
  go_wp2
  go_ret
  exact ⟨sec_no (fun h => by rw [hW] at h; exact absurd h.2.2.1 (by decide)), B⟩

set_option maxRecDepth 100000 in
set_option maxHeartbeats 800000 in
theorem sright_low (g : Int) (s : ByteArray) (w : World) (hG : isG g = true) (hl : s.size ≤ 400) (hW : whole s.data.toList = true) (h1 : bval s.data.toList < 2) :
    Calls Try.prog 8 #[.int .i64 g, .string s] w (fun e W => e = .returned (.bool (isS g s.data.toList)) ∧ Below w.heap.size w W) := by
  have hP := isG_P hG
  have hl5 := bytes_len s (by omega)
  have hlh := half_len g
  have h2l := two_len
  have d : decide (400 < (s.size : Int)) = false := decide_eq_false (by omega)
  have d1 := cmp_nge h1
  go_enter Try.func8, Try.ntmps8
  have B := Below.refl w.heap.size w
  go_wp2_with fail
  refine (rright g true _ hG).mono ?_
  rintro e W1 ⟨rfl, hb⟩
  replace B := B.trans (hb.mono B.size)
  clear hb
  go_wp2_with fail
  refine (wwhole s true _ hW).mono ?_
  rintro e W2 ⟨rfl, hb⟩
  replace B := B.trans (hb.mono B.size)
  clear hb
  go_wp2_with fail
  refine (from_any s _ (by omega)).mono ?_
  rintro e W3 ⟨v3, rfl, L3, hb⟩
  replace B := B.trans (hb.mono B.size)
  clear hb
  obtain ⟨A3, c3, rfl, _⟩ := id L3
  go_wp2_with fail
  refine (least_any _).mono ?_
  rintro e W4 ⟨v4, rfl, L4, hb⟩
  replace L3 := L3.next hb
  replace B := B.trans (hb.mono B.size)
  clear hb
  obtain ⟨A4, c4, rfl, _⟩ := id L4
  go_wp2_with fail
  refine (compareN _ _ (bval s.data.toList) 2 _ L3 L4 (by omega) (by omega)).mono ?_
  rintro e W5 ⟨rfl, hb⟩
  replace L3 := L3.next hb
  replace L4 := L4.next hb
  replace B := B.trans (hb.mono B.size)
  clear hb
  go_wp2
  go_ret
  exact ⟨sec_no (fun h => absurd h.2.2.2.1 (by omega)), B⟩

set_option maxRecDepth 100000 in
set_option maxHeartbeats 800000 in
theorem sright_high (g : Int) (s : ByteArray) (w : World) (hG : isG g = true) (hl : s.size ≤ 400) (hW : whole s.data.toList = true) (h1 : 2 ≤ bval s.data.toList) (h2 : P g / 2 ≤ bval s.data.toList) :
    Calls Try.prog 8 #[.int .i64 g, .string s] w (fun e W => e = .returned (.bool (isS g s.data.toList)) ∧ Below w.heap.size w W) := by
  have hP := isG_P hG
  have hl5 := bytes_len s (by omega)
  have hlh := half_len g
  have h2l := two_len
  have d : decide (400 < (s.size : Int)) = false := decide_eq_false (by omega)
  have d1 := cmp_ge h1
  have d2 := cmp_nlt h2
  go_enter Try.func8, Try.ntmps8
  have B := Below.refl w.heap.size w
  go_wp2_with fail
  refine (rright g true _ hG).mono ?_
  rintro e W1 ⟨rfl, hb⟩
  replace B := B.trans (hb.mono B.size)
  clear hb
  go_wp2_with fail
  refine (wwhole s true _ hW).mono ?_
  rintro e W2 ⟨rfl, hb⟩
  replace B := B.trans (hb.mono B.size)
  clear hb
  go_wp2_with fail
  refine (from_any s _ (by omega)).mono ?_
  rintro e W3 ⟨v3, rfl, L3, hb⟩
  replace B := B.trans (hb.mono B.size)
  clear hb
  obtain ⟨A3, c3, rfl, _⟩ := id L3
  go_wp2_with fail
  refine (least_any _).mono ?_
  rintro e W4 ⟨v4, rfl, L4, hb⟩
  replace L3 := L3.next hb
  replace B := B.trans (hb.mono B.size)
  clear hb
  obtain ⟨A4, c4, rfl, _⟩ := id L4
  go_wp2_with fail
  refine (compareN _ _ (bval s.data.toList) 2 _ L3 L4 (by omega) (by omega)).mono ?_
  rintro e W5 ⟨rfl, hb⟩
  replace L3 := L3.next hb
  replace L4 := L4.next hb
  replace B := B.trans (hb.mono B.size)
  clear hb
  go_wp2_with fail
  refine (order_any g _).mono ?_
  rintro e W6 ⟨v5, rfl, L5, hb⟩
  replace L3 := L3.next hb
  replace B := B.trans (hb.mono B.size)
  clear hb
  obtain ⟨A5, c5, rfl, _⟩ := id L5
  go_wp2_with fail
  refine (compareN _ _ (bval s.data.toList) (P g / 2) _ L3 L5 (by omega) (by omega)).mono ?_
  rintro e W7 ⟨rfl, hb⟩
  replace L3 := L3.next hb
  replace L5 := L5.next hb
  replace B := B.trans (hb.mono B.size)
  clear hb
  go_wp2
  go_ret
  exact ⟨sec_no (fun h => absurd h.2.2.2.2 (by omega)), B⟩

set_option maxRecDepth 100000 in
set_option maxHeartbeats 800000 in
theorem sright_in (g : Int) (s : ByteArray) (w : World) (hG : isG g = true) (hl : s.size ≤ 400) (hW : whole s.data.toList = true) (h1 : 2 ≤ bval s.data.toList) (h2 : bval s.data.toList < P g / 2) :
    Calls Try.prog 8 #[.int .i64 g, .string s] w (fun e W => e = .returned (.bool (isS g s.data.toList)) ∧ Below w.heap.size w W) := by
  have hP := isG_P hG
  have hl5 := bytes_len s (by omega)
  have hlh := half_len g
  have h2l := two_len
  have d : decide (400 < (s.size : Int)) = false := decide_eq_false (by omega)
  have d1 := cmp_ge h1
  have d2 := cmp_lt h2
  go_enter Try.func8, Try.ntmps8
  have B := Below.refl w.heap.size w
  go_wp2_with fail
  refine (rright g true _ hG).mono ?_
  rintro e W1 ⟨rfl, hb⟩
  replace B := B.trans (hb.mono B.size)
  clear hb
  go_wp2_with fail
  refine (wwhole s true _ hW).mono ?_
  rintro e W2 ⟨rfl, hb⟩
  replace B := B.trans (hb.mono B.size)
  clear hb
  go_wp2_with fail
  refine (from_any s _ (by omega)).mono ?_
  rintro e W3 ⟨v3, rfl, L3, hb⟩
  replace B := B.trans (hb.mono B.size)
  clear hb
  obtain ⟨A3, c3, rfl, _⟩ := id L3
  go_wp2_with fail
  refine (least_any _).mono ?_
  rintro e W4 ⟨v4, rfl, L4, hb⟩
  replace L3 := L3.next hb
  replace B := B.trans (hb.mono B.size)
  clear hb
  obtain ⟨A4, c4, rfl, _⟩ := id L4
  go_wp2_with fail
  refine (compareN _ _ (bval s.data.toList) 2 _ L3 L4 (by omega) (by omega)).mono ?_
  rintro e W5 ⟨rfl, hb⟩
  replace L3 := L3.next hb
  replace L4 := L4.next hb
  replace B := B.trans (hb.mono B.size)
  clear hb
  go_wp2_with fail
  refine (order_any g _).mono ?_
  rintro e W6 ⟨v5, rfl, L5, hb⟩
  replace L3 := L3.next hb
  replace B := B.trans (hb.mono B.size)
  clear hb
  obtain ⟨A5, c5, rfl, _⟩ := id L5
  go_wp2_with fail
  refine (compareN _ _ (bval s.data.toList) (P g / 2) _ L3 L5 (by omega) (by omega)).mono ?_
  rintro e W7 ⟨rfl, hb⟩
  replace L3 := L3.next hb
  replace L5 := L5.next hb
  replace B := B.trans (hb.mono B.size)
  clear hb
  go_wp2
  go_ret
  exact ⟨ret_bool (isS_iff.2 ⟨hP, by rw [← size_data]; exact hl, hW, h1, h2⟩).symm, B⟩

theorem sright_any (g : Int) (s : ByteArray) (w : World) :
    Calls Try.prog 8 #[.int .i64 g, .string s] w (fun e W => e = .returned (.bool (isS g s.data.toList)) ∧ Below w.heap.size w W) := by
  cases hG : isG g with
  | false => exact sright_none g s w hG
  | true =>
    by_cases hl : s.size ≤ 400
    rotate_left
    · exact sright_long g s w hG hl
    cases hW : whole s.data.toList with
    | false => exact sright_part g s w hG hl hW
    | true =>
      rcases Nat.lt_or_ge (bval s.data.toList) 2 with h1 | h1
      · exact sright_low g s w hG hl hW h1
      · rcases Nat.lt_or_ge (bval s.data.toList) (P g / 2) with h2 | h2
        · exact sright_in g s w hG hl hW h1 h2
        · exact sright_high g s w hG hl hW h1 h2

set_option maxRecDepth 100000 in
set_option maxHeartbeats 800000 in
theorem sreduce_none (g : Int) (s : ByteArray) (w : World) (hs : s.size ≤ 4000) (hP : P g = 0) :
    Calls Try.prog 10 #[.int .i64 g, .string s] w (fun e W => e = .returned (.string (txt 0)) ∧ Below w.heap.size w W) := by
  have hlh := half_len g
  have h2l := two_len
  have hz : P g / 2 < 2 := by rw [hP]; decide
  have HP := Lib.hid hP
  clear hP
  go_enter Try.func10, Try.ntmps10
  have B := Below.refl w.heap.size w
  go_wp2_with fail
  refine (order_any g _).mono ?_
  rintro e W1 ⟨v1, rfl, L1, hb⟩
  replace B := B.trans (hb.mono B.size)
  clear hb
  obtain ⟨A1, c1, rfl, _⟩ := id L1
  go_wp2_with fail
  refine (least_any _).mono ?_
  rintro e W2 ⟨v2, rfl, L2, hb⟩
  replace L1 := L1.next hb
  replace B := B.trans (hb.mono B.size)
  clear hb
  obtain ⟨A2, c2, rfl, _⟩ := id L2
  go_wp2_with fail
  refine (subN_no _ _ (P g / 2) 2 _ L1 L2 (by omega) (by omega) (by omega)).mono ?_
  rintro e W3 ⟨rfl, hb⟩
  replace L1 := L1.next hb
  replace L2 := L2.next hb
  replace B := B.trans (hb.mono B.size)
  clear hb
  go_wp2
  go_ret
  exact ⟨by rw [txt_is]; rfl, B⟩

set_option maxRecDepth 100000 in
set_option maxHeartbeats 800000 in
theorem sreduce_yes (g : Int) (s : ByteArray) (w : World) (hs : s.size ≤ 4000) (hP : P g ≠ 0) :
    Calls Try.prog 10 #[.int .i64 g, .string s] w (fun e W => e = .returned (.string (txt (2 + bval s.data.toList % (P g / 2 - 2)))) ∧ Below w.heap.size w W) := by
  have hlh := half_len g
  have h2l := two_len
  have hq := q_big hP
  have hl5 := bytes_len s hs
  have hlt := red_lt (bval s.data.toList) hP
  have hll := P_lt g
  have e1 : (limbs (P g / 2 - 2)).length ≤ 24 := limbs_len (by omega)
  have e2 : (limbs (bval s.data.toList % (P g / 2 - 2))).length ≤ 24 := limbs_len (by omega)
  have e3 : (limbs (2 + bval s.data.toList % (P g / 2 - 2))).length ≤ 24 := limbs_len (by omega)
  clear hlt hll
  go_enter Try.func10, Try.ntmps10
  have B := Below.refl w.heap.size w
  go_wp2_with fail
  refine (order_any g _).mono ?_
  rintro e W1 ⟨v1, rfl, L1, hb⟩
  replace B := B.trans (hb.mono B.size)
  clear hb
  obtain ⟨A1, c1, rfl, _⟩ := id L1
  go_wp2_with fail
  refine (least_any _).mono ?_
  rintro e W2 ⟨v2, rfl, L2, hb⟩
  replace L1 := L1.next hb
  replace B := B.trans (hb.mono B.size)
  clear hb
  obtain ⟨A2, c2, rfl, _⟩ := id L2
  go_wp2_with fail
  refine (subN _ _ (P g / 2) 2 _ L1 L2 (by omega) (by omega) (by omega)).mono ?_
  rintro e W3 ⟨v3, rfl, L3, hb⟩
  replace L1 := L1.next hb
  replace L2 := L2.next hb
  replace B := B.trans (hb.mono B.size)
  clear hb
  obtain ⟨A3, c3, rfl, _⟩ := id L3
  go_wp2_with fail
  refine (from_any s _ (by omega)).mono ?_
  rintro e W4 ⟨v4, rfl, L4, hb⟩
  replace L3 := L3.next hb
  replace B := B.trans (hb.mono B.size)
  clear hb
  obtain ⟨A4, c4, rfl, _⟩ := id L4
  go_wp2_with fail
  refine (restN _ _ (bval s.data.toList) (P g / 2 - 2) _ L4 L3 (by omega) (by omega) (by omega)).mono ?_
  rintro e W5 ⟨v5, rfl, L5, hb⟩
  replace L3 := L3.next hb
  replace L4 := L4.next hb
  replace B := B.trans (hb.mono B.size)
  clear hb
  obtain ⟨A5, c5, rfl, _⟩ := id L5
  go_wp2_with fail
  refine (least_any _).mono ?_
  rintro e W6 ⟨v6, rfl, L6, hb⟩
  replace L5 := L5.next hb
  replace B := B.trans (hb.mono B.size)
  clear hb
  obtain ⟨A6, c6, rfl, _⟩ := id L6
  go_wp2_with fail
  refine (addN _ _ 2 (bval s.data.toList % (P g / 2 - 2)) _ L6 L5 (by omega) (by omega)).mono ?_
  rintro e W7 ⟨v7, rfl, L7, hb⟩
  replace L5 := L5.next hb
  replace L6 := L6.next hb
  replace B := B.trans (hb.mono B.size)
  clear hb
  obtain ⟨A7, c7, rfl, _⟩ := id L7
  go_wp2_with fail
  refine (toN _ (2 + bval s.data.toList % (P g / 2 - 2)) _ L7 (by omega)).mono ?_
  rintro e W8 ⟨rfl, hb⟩
  replace L5 := L5.next hb
  replace L6 := L6.next hb
  replace L7 := L7.next hb
  replace B := B.trans (hb.mono B.size)
  clear hb
  go_wp2
  go_ret
  exact ⟨rfl, B⟩

theorem sreduce_any (g : Int) (s : ByteArray) (w : World) (hs : s.size ≤ 4000) :
    Calls Try.prog 10 #[.int .i64 g, .string s] w (fun e W => e = .returned (.string (txt (redN g (bval s.data.toList)))) ∧ Below w.heap.size w W) := by
  by_cases hP : P g = 0
  · rw [redN_no _ hP]
    exact sreduce_none g s w hs hP
  · rw [redN_yes _ hP]
    exact sreduce_yes g s w hs hP

set_option maxRecDepth 100000 in
set_option maxHeartbeats 800000 in
theorem spower_none (g : Int) (v : Value) (a : Nat) (s : ByteArray) (w : World) (L : Lim w.heap.size w v (limbs a)) (hla : (limbs a).length ≤ 500) (hs : s.size ≤ 4000) (hP : P g = 0) :
    Calls Try.prog 38 #[.int .i64 g, v, .string s] w (fun e W => e = .returned (.string (txt 0)) ∧ Below w.heap.size w W) := by
  have hl5 := bytes_len s hs
  have hl24 := P_len g
  have HP := Lib.hid hP
  clear hP
  obtain ⟨A0, c0, rfl, _⟩ := id L
  go_enter Try.func38, Try.ntmps38
  have B := Below.refl w.heap.size w
  go_wp2_with fail
  refine (from_any s _ (by omega)).mono ?_
  rintro e W1 ⟨v3, rfl, L3, hb⟩
  replace L := L.next hb
  replace B := B.trans (hb.mono B.size)
  clear hb
  obtain ⟨A3, c3, rfl, _⟩ := id L3
  go_wp2_with fail
  refine (prime_any g _).mono ?_
  rintro e W2 ⟨v4, rfl, L4, hb⟩
  replace L := L.next hb
  replace L3 := L3.next hb
  replace B := B.trans (hb.mono B.size)
  clear hb
  obtain ⟨A4, c4, rfl, _⟩ := id L4
  go_wp2_with fail
  refine (powerN_no _ _ _ a (bval s.data.toList) (P g) _ L L3 L4 (by omega) (by omega) (by omega) HP.out).mono ?_
  rintro e W3 ⟨rfl, hb⟩
  replace L := L.next hb
  replace L3 := L3.next hb
  replace L4 := L4.next hb
  replace B := B.trans (hb.mono B.size)
  clear hb
  go_wp2_with fail
  refine (toN_nil _).mono ?_
  rintro e W4 ⟨rfl, hb⟩
  replace L := L.next hb
  replace L3 := L3.next hb
  replace L4 := L4.next hb
  replace B := B.trans (hb.mono B.size)
  clear hb
  go_wp2
  go_ret
  exact ⟨rfl, B⟩

set_option maxRecDepth 100000 in
set_option maxHeartbeats 800000 in
theorem spower_yes (g : Int) (v : Value) (a : Nat) (s : ByteArray) (w : World) (L : Lim w.heap.size w v (limbs a)) (hla : (limbs a).length ≤ 500) (hs : s.size ≤ 4000) (hP : P g ≠ 0) :
    Calls Try.prog 38 #[.int .i64 g, v, .string s] w (fun e W => e = .returned (.string (txt (pm a (bval s.data.toList) (P g)))) ∧ Below w.heap.size w W) := by
  have hl5 := bytes_len s hs
  have hl24 := P_len g
  have hlp := pm_len24 g a (bval s.data.toList) hP
  obtain ⟨A0, c0, rfl, _⟩ := id L
  go_enter Try.func38, Try.ntmps38
  have B := Below.refl w.heap.size w
  go_wp2_with fail
  refine (from_any s _ (by omega)).mono ?_
  rintro e W1 ⟨v3, rfl, L3, hb⟩
  replace L := L.next hb
  replace B := B.trans (hb.mono B.size)
  clear hb
  obtain ⟨A3, c3, rfl, _⟩ := id L3
  go_wp2_with fail
  refine (prime_any g _).mono ?_
  rintro e W2 ⟨v4, rfl, L4, hb⟩
  replace L := L.next hb
  replace L3 := L3.next hb
  replace B := B.trans (hb.mono B.size)
  clear hb
  obtain ⟨A4, c4, rfl, _⟩ := id L4
  go_wp2_with fail
  refine (powerN _ _ _ a (bval s.data.toList) (P g) _ L L3 L4 (by omega) (by omega) (by omega) hP).mono ?_
  rintro e W3 ⟨v5, rfl, L5, hb⟩
  replace L := L.next hb
  replace L3 := L3.next hb
  replace L4 := L4.next hb
  replace B := B.trans (hb.mono B.size)
  clear hb
  obtain ⟨A5, c5, rfl, _⟩ := id L5
  go_wp2_with fail
  refine (toN _ (pm a (bval s.data.toList) (P g)) _ L5 (by omega)).mono ?_
  rintro e W4 ⟨rfl, hb⟩
  replace L := L.next hb
  replace L3 := L3.next hb
  replace L4 := L4.next hb
  replace L5 := L5.next hb
  replace B := B.trans (hb.mono B.size)
  clear hb
  go_wp2
  go_ret
  exact ⟨rfl, B⟩

theorem spower_any (g : Int) (v : Value) (a : Nat) (s : ByteArray) (w : World) (L : Lim w.heap.size w v (limbs a)) (hla : (limbs a).length ≤ 500) (hs : s.size ≤ 4000) :
    Calls Try.prog 38 #[.int .i64 g, v, .string s] w (fun e W => e = .returned (.string (txt (powN g a (bval s.data.toList)))) ∧ Below w.heap.size w W) := by
  by_cases hP : P g = 0
  · rw [powN_no _ _ hP]
    exact spower_none g v a s w L hla hs hP
  · rw [powN_yes _ _ hP]
    exact spower_yes g v a s w L hla hs hP

set_option maxRecDepth 100000 in
set_option maxHeartbeats 800000 in
theorem sblind_any (g : Int) (s : ByteArray) (w : World) (hs : s.size ≤ 4000) :
    Calls Try.prog 12 #[.int .i64 g, .string s] w (fun e W => e = .returned (.string (txt (powN g 2 (bval s.data.toList)))) ∧ Below w.heap.size w W) := by
  have h2l := two_len
  go_enter Try.func12, Try.ntmps12
  have B := Below.refl w.heap.size w
  go_wp2_with fail
  refine (spower_any g _ 2 s _ (lit_two _) (by omega) hs).mono ?_
  rintro e W1 ⟨rfl, hb⟩
  replace B := (al1 B _).trans (hb.mono (al1 B _).size)
  clear hb
  go_wp2
  go_ret
  exact ⟨rfl, B⟩

set_option maxRecDepth 100000 in
set_option maxHeartbeats 800000 in
theorem sagree_any (g : Int) (b s : ByteArray) (w : World) (hb0 : b.size ≤ 4000) (hs : s.size ≤ 4000) :
    Calls Try.prog 14 #[.int .i64 g, .string b, .string s] w (fun e W => e = .returned (.string (txt (redN g (powN g (bval b.data.toList) (bval s.data.toList))))) ∧ Below w.heap.size w W) := by
  have hl5 := bytes_len b hb0
  have htz : (txt (powN g (bval b.data.toList) (bval s.data.toList))).size ≤ 192 := by rw [txt_size]; exact nbyt_24 (powN_lt _ _ _)
  go_enter Try.func14, Try.ntmps14
  have B := Below.refl w.heap.size w
  go_wp2_with fail
  refine (from_any b _ (by omega)).mono ?_
  rintro e W1 ⟨v3, rfl, L3, hb⟩
  replace B := B.trans (hb.mono B.size)
  clear hb
  obtain ⟨A3, c3, rfl, _⟩ := id L3
  go_wp2_with fail
  refine (spower_any g _ (bval b.data.toList) s _ L3 (by omega) hs).mono ?_
  rintro e W2 ⟨rfl, hb⟩
  replace L3 := L3.next hb
  replace B := B.trans (hb.mono B.size)
  clear hb
  go_wp2_with fail
  refine (sreduce_any g (txt (powN g (bval b.data.toList) (bval s.data.toList))) _ (by omega)).mono ?_
  rintro e W3 ⟨rfl, hb⟩
  rw [txt_val]
  replace B := B.trans (hb.mono B.size)
  clear hb
  go_wp2
  go_ret
  exact ⟨rfl, B⟩


end Go.Proofs.Ytilbkfgbbajelaa
