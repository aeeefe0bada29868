/- The document's own answers of layer 6 (package lodgeref06): Right, Reduce, Blind, Agree. Conditions: texts of at most four thousand bytes. -/
import Derived.Test.YtilbkfgbbajelaaSec
namespace Go.Proofs.Ytilbkfgbbajelaa
open Go.RowKit Go.Shelf Num
set_option linter.unusedVariables false

theorem refCompareN (v u : Value) (a b : Nat) (w : World) (hLa : Lim w.heap.size w v (limbs a)) (hLb : Lim w.heap.size w u (limbs b)) (hlx : (limbs a).length ≤ 34359738368) (hly : (limbs b).length ≤ 34359738368) :
    Calls Try.prog 21 #[v, u] w (fun e W' => e = .returned (.int .i64 (cmpN a b)) ∧ w = W') := by
  have h := refCompare_any v u (limbs a) (limbs b) w hLa hLb (by omega) (by omega)
  rwa [val_limbs, val_limbs] at h
theorem refAddN (v u : Value) (a b : Nat) (w : World) (hLa : Lim w.heap.size w v (limbs a)) (hLb : Lim w.heap.size w u (limbs b)) (hlx : (limbs a).length ≤ 34359738368) (hly : (limbs b).length ≤ 34359738368) :
    Calls Try.prog 23 #[v, u] w (Gives (a + b) w) := by
  have h := refAdd_any v u (limbs a) (limbs b) w hLa hLb (by omega) (by omega)
  rwa [val_limbs, val_limbs] at h
theorem refSubN (v u : Value) (a b : Nat) (w : World) (hLa : Lim w.heap.size w v (limbs a)) (hLb : Lim w.heap.size w u (limbs b)) (hlx : (limbs a).length ≤ 34359738368) (hly : (limbs b).length ≤ 34359738368) (hle : b ≤ a) :
    Calls Try.prog 18 #[v, u] w (fun e W' => ∃ r, e = .returned (.tuple #[r, .bool true]) ∧ Lim W'.heap.size W' r (limbs (a - b)) ∧ Below w.heap.size w W') := by
  have h := refSub_any v u (limbs a) (limbs b) w hLa hLb (by omega) (by omega) (by rw [val_limbs, val_limbs]; exact hle)
  rwa [val_limbs, val_limbs] at h
theorem refSubN_no (v u : Value) (a b : Nat) (w : World) (hLa : Lim w.heap.size w v (limbs a)) (hLb : Lim w.heap.size w u (limbs b)) (hlx : (limbs a).length ≤ 34359738368) (hly : (limbs b).length ≤ 34359738368) (hlt : a < b) :
    Calls Try.prog 18 #[v, u] w (fun e W' => e = .returned (.tuple #[.slice none 0 0, .bool false]) ∧ Below w.heap.size w W') :=
  (refSub_no v u (limbs a) (limbs b) w hLa hLb (by omega) (by omega) (by rw [val_limbs, val_limbs]; exact hlt)).mono fun e W ⟨he, hw⟩ => ⟨he, by subst hw; exact Below.refl _ _⟩
theorem refRestN (v u : Value) (a b : Nat) (w : World) (hLa : Lim w.heap.size w v (limbs a)) (hLb : Lim w.heap.size w u (limbs b)) (hlx : (limbs a).length ≤ 34359738368) (hly : (limbs b).length ≤ 34359738368) (h0 : b ≠ 0) :
    Calls Try.prog 37 #[v, u] w (GivesOk (a % b) w) := by
  have h := refRest_any v u (limbs a) (limbs b) w hLa hLb (by omega) (by omega) (by rw [val_limbs]; exact h0)
  rwa [val_limbs, val_limbs] at h
theorem refPowerN (v u z : Value) (a b c : Nat) (w : World) (hLa : Lim w.heap.size w v (limbs a)) (hLb : Lim w.heap.size w u (limbs b)) (hLc : Lim w.heap.size w z (limbs c)) (hlx : (limbs a).length ≤ 34359738368) (hly : (limbs b).length ≤ 34359738368) (hlz : (limbs c).length ≤ 34359738368) (h0 : c ≠ 0) :
    Calls Try.prog 39 #[v, u, z] w (GivesOk (pm a b c) w) := by
  have h := refPower_any v u z (limbs a) (limbs b) (limbs c) w hLa hLb hLc (by omega) (by omega) (by omega) (by rw [val_limbs]; exact h0)
  rwa [val_limbs, val_limbs, val_limbs] at h
theorem refPowerN_no (v u z : Value) (a b c : Nat) (w : World) (hLa : Lim w.heap.size w v (limbs a)) (hLb : Lim w.heap.size w u (limbs b)) (hLc : Lim w.heap.size w z (limbs c)) (hlx : (limbs a).length ≤ 34359738368) (hly : (limbs b).length ≤ 34359738368) (hlz : (limbs c).length ≤ 34359738368) (h0 : c = 0) :
    Calls Try.prog 39 #[v, u, z] w (GivesNo w) :=
  refPower_zero v u z (limbs a) (limbs b) (limbs c) w hLa hLb hLc (by omega) (by omega) (by omega) (by rw [val_limbs]; exact h0)
theorem refToN (v : Value) (a : Nat) (w : World) (hL : Lim w.heap.size w v (limbs a)) (hlx : (limbs a).length ≤ 34359738368) :
    Calls Try.prog 22 #[v] w fun e W' => e = .returned (.string (txt a)) ∧ Below w.heap.size w W' := by
  have h := refTo_any v (limbs a) w hL (by omega)
  rwa [val_limbs, ← txt_is] at h
theorem refToN_nil (w : World) :
    Calls Try.prog 22 #[.slice none 0 0] w fun e W' => e = .returned (.string (txt 0)) ∧ Below w.heap.size w W' :=
  refToN _ 0 w (by rw [limbs_zero]; exact Lim.nil _ _) (by rw [limbs_zero]; simp)

theorem refRright (g : Int) (b : Bool) (w : World) (h : isG g = b) : Calls Try.prog 17 #[.int .i64 g] w fun e W => e = .returned (.bool b) ∧ Below w.heap.size w W := by
  have k := refRight_any g w
  rw [h] at k
  exact k.mono fun e W ⟨he, hw⟩ => ⟨he, by subst hw; exact Below.refl _ _⟩
theorem refWwhole (s : ByteArray) (b : Bool) (w : World) (h : whole s.data.toList = b) : Calls Try.prog 32 #[.string s] w fun e W => e = .returned (.bool b) ∧ Below w.heap.size w W := by
  have k := refWhole_any s w
  rw [h] at k
  exact k.mono fun e W ⟨he, hw⟩ => ⟨he, by subst hw; exact Below.refl _ _⟩
theorem refCmp (v u : Value) (a b : Nat) (w : World) (hLa : Lim w.heap.size w v (limbs a)) (hLb : Lim w.heap.size w u (limbs b)) (hlx : (limbs a).length ≤ 34359738368) (hly : (limbs b).length ≤ 34359738368) :
    Calls Try.prog 21 #[v, u] w (fun e W' => e = .returned (.int .i64 (cmpN a b)) ∧ Below w.heap.size w W') :=
  (refCompareN v u a b w hLa hLb hlx hly).mono fun e W ⟨he, hw⟩ => ⟨he, by subst hw; exact Below.refl _ _⟩

set_option maxRecDepth 100000 in
set_option maxHeartbeats 800000 in
theorem refSright_none (g : Int) (s : ByteArray) (w : World) (hs : s.size ≤ 4000) (hG : isG g = false) :
    Calls Try.prog 9 #[.int .i64 g, .string s] w (fun e W => e = .returned (.bool (isS g s.data.toList)) ∧ Below w.heap.size w W) := by
  have hP := isG_no hG
  go_enter Try.func9, Try.ntmps9
  have B := Below.refl w.heap.size w
  go_wp2_with fail
  refine (refFrom_any s _ (by omega)).mono ?_
  rintro e W1 ⟨v3, rfl, L3, hb⟩
  replace B := B.trans (hb.mono B.size)
  clear hb
  obtain ⟨A3, c3, rfl, _⟩ := id L3
  go_wp2_with fail
  refine (refRright g false _ hG).mono ?_
  rintro e W2 ⟨rfl, hb⟩
  replace L3 := L3.next hb
  replace B := B.trans (hb.mono B.size)
  clear hb
  go_wp2
  go_ret
  exact ⟨sec_no (fun h => h.1 hP), B⟩

set_option maxRecDepth 100000 in
set_option maxHeartbeats 800000 in
theorem refSright_part (g : Int) (s : ByteArray) (w : World) (hs : s.size ≤ 4000) (hG : isG g = true) (hW : whole s.data.toList = false) :
    Calls Try.prog 9 #[.int .i64 g, .string s] w (fun e W => e = .returned (.bool (isS g s.data.toList)) ∧ Below w.heap.size w W) := by
  go_enter Try.func9, Try.ntmps9
  have B := Below.refl w.heap.size w
  go_wp2_with fail
  refine (refFrom_any s _ (by omega)).mono ?_
  rintro e W1 ⟨v3, rfl, L3, hb⟩
  replace B := B.trans (hb.mono B.size)
  clear hb
  obtain ⟨A3, c3, rfl, _⟩ := id L3
  go_wp2_with fail
  refine (refRright g true _ hG).mono ?_
  rintro e W2 ⟨rfl, hb⟩
  replace L3 := L3.next hb
  replace B := B.trans (hb.mono B.size)
  clear hb
  go_wp2_with fail
  refine (refWwhole s false _ hW).mono ?_
  rintro e W3 ⟨rfl, hb⟩
  replace L3 := L3.next hb
  replace B := B.trans (hb.mono B.size)
  clear hb
  go_wp2
  go_ret
  exact ⟨sec_no (fun h => by rw [hW] at h; exact absurd h.2.2.1 (by decide)), B⟩

set_option maxRecDepth 100000 in
set_option maxHeartbeats 800000 in
theorem refSright_long (g : Int) (s : ByteArray) (w : World) (hs : s.size ≤ 4000) (hG : isG g = true) (hl : ¬ s.size ≤ 400) (hW : whole s.data.toList = true) :
    Calls Try.prog 9 #[.int .i64 g, .string s] w (fun e W => e = .returned (.bool (isS g s.data.toList)) ∧ Below w.heap.size w W) := by
  have d : decide ((s.size : Int) ≤ 400) = false := decide_eq_false (by omega)
  go_enter Try.func9, Try.ntmps9
  have B := Below.refl w.heap.size w
  go_wp2_with fail
  refine (refFrom_any s _ (by omega)).mono ?_
  rintro e W1 ⟨v3, rfl, L3, hb⟩
  replace B := B.trans (hb.mono B.size)
  clear hb
  obtain ⟨A3, c3, rfl, _⟩ := id L3
  go_wp2_with fail
  refine (refRright g true _ hG).mono ?_
  rintro e W2 ⟨rfl, hb⟩
  replace L3 := L3.next hb
  replace B := B.trans (hb.mono B.size)
  clear hb
  go_wp2_with fail
  refine (refWwhole s true _ hW).mono ?_
  rintro e W3 ⟨rfl, hb⟩
  replace L3 := L3.next hb
  replace B := B.trans (hb.mono B.size)
  clear hb
  go_wp2
  go_ret
  exact ⟨sec_no (fun h => hl (by rw [size_data]; exact h.2.1)), B⟩

set_option maxRecDepth 100000 in
set_option maxHeartbeats 800000 in
theorem refSright_low (g : Int) (s : ByteArray) (w : World) (hG : isG g = true) (hl : s.size ≤ 400) (hW : whole s.data.toList = true) (h1 : bval s.data.toList < 2) :
    Calls Try.prog 9 #[.int .i64 g, .string s] w (fun e W => e = .returned (.bool (isS g s.data.toList)) ∧ Below w.heap.size w W) := by
  have hP := isG_P hG
  have hl5 := bytes_len s (by omega)
  have hlh := half_len g
  have h2l := two_len
  have d : decide ((s.size : Int) ≤ 400) = true := decide_eq_true (by omega)
  have d1 := cmp_nge h1
  go_enter Try.func9, Try.ntmps9
  have B := Below.refl w.heap.size w
  go_wp2_with fail
  refine (refFrom_any s _ (by omega)).mono ?_
  rintro e W1 ⟨v3, rfl, L3, hb⟩
  replace B := B.trans (hb.mono B.size)
  clear hb
  obtain ⟨A3, c3, rfl, _⟩ := id L3
  go_wp2_with fail
  refine (refRright g true _ hG).mono ?_
  rintro e W2 ⟨rfl, hb⟩
  replace L3 := L3.next hb
  replace B := B.trans (hb.mono B.size)
  clear hb
  go_wp2_with fail
  refine (refWwhole s true _ hW).mono ?_
  rintro e W3 ⟨rfl, hb⟩
  replace L3 := L3.next hb
  replace B := B.trans (hb.mono B.size)
  clear hb
  go_wp2_with fail
  refine (refCmp _ _ (bval s.data.toList) 2 _ (L3.alloc _) (lit_two _) (by omega) (by omega)).mono ?_
  rintro e W4 ⟨rfl, hb⟩
  replace L3 := ((L3).alloc _).next hb
  replace B := (al1 B _).trans (hb.mono (al1 B _).size)
  clear hb
  go_wp2
  go_ret
  exact ⟨sec_no (fun h => absurd h.2.2.2.1 (by omega)), B⟩

set_option maxRecDepth 100000 in
set_option maxHeartbeats 800000 in
theorem refSright_high (g : Int) (s : ByteArray) (w : World) (hG : isG g = true) (hl : s.size ≤ 400) (hW : whole s.data.toList = true) (h1 : 2 ≤ bval s.data.toList) (h2 : P g / 2 ≤ bval s.data.toList) :
    Calls Try.prog 9 #[.int .i64 g, .string s] w (fun e W => e = .returned (.bool (isS g s.data.toList)) ∧ Below w.heap.size w W) := by
  have hP := isG_P hG
  have hl5 := bytes_len s (by omega)
  have hlh := half_len g
  have h2l := two_len
  have d : decide ((s.size : Int) ≤ 400) = true := decide_eq_true (by omega)
  have d1 := cmp_ge h1
  have d2 := cmp_nlt h2
  go_enter Try.func9, Try.ntmps9
  have B := Below.refl w.heap.size w
  go_wp2_with fail
  refine (refFrom_any s _ (by omega)).mono ?_
  rintro e W1 ⟨v3, rfl, L3, hb⟩
  replace B := B.trans (hb.mono B.size)
  clear hb
  obtain ⟨A3, c3, rfl, _⟩ := id L3
  go_wp2_with fail
  refine (refRright g true _ hG).mono ?_
  rintro e W2 ⟨rfl, hb⟩
  replace L3 := L3.next hb
  replace B := B.trans (hb.mono B.size)
  clear hb
  go_wp2_with fail
  refine (refWwhole s true _ hW).mono ?_
  rintro e W3 ⟨rfl, hb⟩
  replace L3 := L3.next hb
  replace B := B.trans (hb.mono B.size)
  clear hb
  go_wp2_with fail
  refine (refCmp _ _ (bval s.data.toList) 2 _ (L3.alloc _) (lit_two _) (by omega) (by omega)).mono ?_
  rintro e W4 ⟨rfl, hb⟩
  replace L3 := ((L3).alloc _).next hb
  replace B := (al1 B _).trans (hb.mono (al1 B _).size)
  clear hb
  go_wp2_with fail
  refine (refOrder_any g _).mono ?_
  rintro e W5 ⟨v5, rfl, L5, hb⟩
  replace L3 := L3.next hb
  replace B := B.trans (hb.mono B.size)
  clear hb
  obtain ⟨A5, c5, rfl, _⟩ := id L5
  go_wp2_with fail
  refine (refCmp _ _ (bval s.data.toList) (P g / 2) _ L3 L5 (by omega) (by omega)).mono ?_
  rintro e W6 ⟨rfl, hb⟩
  replace L3 := L3.next hb
  replace L5 := L5.next hb
  replace B := B.trans (hb.mono B.size)
  clear hb
  go_wp2
  go_ret
  exact ⟨sec_no (fun h => absurd h.2.2.2.2 (by omega)), B⟩

set_option maxRecDepth 100000 in
set_option maxHeartbeats 800000 in
theorem refSright_in (g : Int) (s : ByteArray) (w : World) (hG : isG g = true) (hl : s.size ≤ 400) (hW : whole s.data.toList = true) (h1 : 2 ≤ bval s.data.toList) (h2 : bval s.data.toList < P g / 2) :
    Calls Try.prog 9 #[.int .i64 g, .string s] w (fun e W => e = .returned (.bool (isS g s.data.toList)) ∧ Below w.heap.size w W) := by
  have hP := isG_P hG
  have hl5 := bytes_len s (by omega)
  have hlh := half_len g
  have h2l := two_len
  have d : decide ((s.size : Int) ≤ 400) = true := decide_eq_true (by omega)
  have d1 := cmp_ge h1
  have d2 := cmp_lt h2
  go_enter Try.func9, Try.ntmps9
  have B := Below.refl w.heap.size w
  go_wp2_with fail
  refine (refFrom_any s _ (by omega)).mono ?_
  rintro e W1 ⟨v3, rfl, L3, hb⟩
  replace B := B.trans (hb.mono B.size)
  clear hb
  obtain ⟨A3, c3, rfl, _⟩ := id L3
  go_wp2_with fail
  refine (refRright g true _ hG).mono ?_
  rintro e W2 ⟨rfl, hb⟩
  replace L3 := L3.next hb
  replace B := B.trans (hb.mono B.size)
  clear hb
  go_wp2_with fail
  refine (refWwhole s true _ hW).mono ?_
  rintro e W3 ⟨rfl, hb⟩
  replace L3 := L3.next hb
  replace B := B.trans (hb.mono B.size)
  clear hb
  go_wp2_with fail
  refine (refCmp _ _ (bval s.data.toList) 2 _ (L3.alloc _) (lit_two _) (by omega) (by omega)).mono ?_
  rintro e W4 ⟨rfl, hb⟩
  replace L3 := ((L3).alloc _).next hb
  replace B := (al1 B _).trans (hb.mono (al1 B _).size)
  clear hb
  go_wp2_with fail
  refine (refOrder_any g _).mono ?_
  rintro e W5 ⟨v5, rfl, L5, hb⟩
  replace L3 := L3.next hb
  replace B := B.trans (hb.mono B.size)
  clear hb
  obtain ⟨A5, c5, rfl, _⟩ := id L5
  go_wp2_with fail
  refine (refCmp _ _ (bval s.data.toList) (P g / 2) _ L3 L5 (by omega) (by omega)).mono ?_
  rintro e W6 ⟨rfl, hb⟩
  replace L3 := L3.next hb
  replace L5 := L5.next hb
  replace B := B.trans (hb.mono B.size)
  clear hb
  go_wp2
  go_ret
  exact ⟨ret_bool (isS_iff.2 ⟨hP, by rw [← size_data]; exact hl, hW, h1, h2⟩).symm, B⟩

theorem refSright_any (g : Int) (s : ByteArray) (w : World) (hs : s.size ≤ 4000) :
    Calls Try.prog 9 #[.int .i64 g, .string s] w (fun e W => e = .returned (.bool (isS g s.data.toList)) ∧ Below w.heap.size w W) := by
  cases hG : isG g with
  | false => exact refSright_none g s w hs hG
  | true =>
    cases hW : whole s.data.toList with
    | false => exact refSright_part g s w hs hG hW
    | true =>
      by_cases hl : s.size ≤ 400
      rotate_left
      · exact refSright_long g s w hs hG hl hW
      rcases Nat.lt_or_ge (bval s.data.toList) 2 with h1 | h1
      · exact refSright_low g s w hG hl hW h1
      · rcases Nat.lt_or_ge (bval s.data.toList) (P g / 2) with h2 | h2
        · exact refSright_in g s w hG hl hW h1 h2
        · exact refSright_high g s w hG hl hW h1 h2

set_option maxRecDepth 100000 in
set_option maxHeartbeats 800000 in
theorem refSreduce_none (g : Int) (s : ByteArray) (w : World) (hs : s.size ≤ 4000) (hP : P g = 0) :
    Calls Try.prog 11 #[.int .i64 g, .string s] w (fun e W => e = .returned (.string (txt 0)) ∧ Below w.heap.size w W) := by
  have hlh := half_len g
  have h2l := two_len
  have hz : P g / 2 < 2 := by rw [hP]; decide
  have HP := Lib.hid hP
  clear hP
  go_enter Try.func11, Try.ntmps11
  have B := Below.refl w.heap.size w
  go_wp2_with fail
  refine (refOrder_any g _).mono ?_
  rintro e W1 ⟨v1, rfl, L1, hb⟩
  replace B := B.trans (hb.mono B.size)
  clear hb
  obtain ⟨A1, c1, rfl, _⟩ := id L1
  go_wp2_with fail
  refine (refSubN_no _ _ (P g / 2) 2 _ (L1.alloc _) (lit_two _) (by omega) (by omega) (by omega)).mono ?_
  rintro e W2 ⟨rfl, hb⟩
  replace L1 := ((L1).alloc _).next hb
  replace B := (al1 B _).trans (hb.mono (al1 B _).size)
  clear hb
  go_wp2
  go_ret
  exact ⟨by rw [txt_is]; rfl, B⟩

set_option maxRecDepth 100000 in
set_option maxHeartbeats 800000 in
theorem refSreduce_yes (g : Int) (s : ByteArray) (w : World) (hs : s.size ≤ 4000) (hP : P g ≠ 0) :
    Calls Try.prog 11 #[.int .i64 g, .string s] w (fun e W => e = .returned (.string (txt (bval s.data.toList % (P g / 2 - 2) + 2))) ∧ Below w.heap.size w W) := by
  have hlh := half_len g
  have h2l := two_len
  have hq := q_big hP
  have hl5 := bytes_len s hs
  have hlt := red_lt (bval s.data.toList) hP
  have hll := P_lt g
  have e1 : (limbs (P g / 2 - 2)).length ≤ 24 := limbs_len (by omega)
  have e2 : (limbs (bval s.data.toList % (P g / 2 - 2))).length ≤ 24 := limbs_len (by omega)
  have e3 : (limbs (bval s.data.toList % (P g / 2 - 2) + 2)).length ≤ 24 := limbs_len (by omega)
  clear hlt hll
  go_enter Try.func11, Try.ntmps11
  have B := Below.refl w.heap.size w
  go_wp2_with fail
  refine (refOrder_any g _).mono ?_
  rintro e W1 ⟨v1, rfl, L1, hb⟩
  replace B := B.trans (hb.mono B.size)
  clear hb
  obtain ⟨A1, c1, rfl, _⟩ := id L1
  go_wp2_with fail
  refine (refSubN _ _ (P g / 2) 2 _ (L1.alloc _) (lit_two _) (by omega) (by omega) (by omega)).mono ?_
  rintro e W2 ⟨v3, rfl, L3, hb⟩
  replace L1 := ((L1).alloc _).next hb
  replace B := (al1 B _).trans (hb.mono (al1 B _).size)
  clear hb
  obtain ⟨A3, c3, rfl, _⟩ := id L3
  go_wp2_with fail
  refine (refFrom_any s _ (by omega)).mono ?_
  rintro e W3 ⟨v4, rfl, L4, hb⟩
  replace L3 := L3.next hb
  replace B := B.trans (hb.mono B.size)
  clear hb
  obtain ⟨A4, c4, rfl, _⟩ := id L4
  go_wp2_with fail
  refine (refRestN _ _ (bval s.data.toList) (P g / 2 - 2) _ L4 L3 (by omega) (by omega) (by omega)).mono ?_
  rintro e W4 ⟨v5, rfl, L5, hb⟩
  replace L3 := L3.next hb
  replace L4 := L4.next hb
  replace B := B.trans (hb.mono B.size)
  clear hb
  obtain ⟨A5, c5, rfl, _⟩ := id L5
  go_wp2_with fail
  refine (refAddN _ _ (bval s.data.toList % (P g / 2 - 2)) 2 _ (L5.alloc _) (lit_two _) (by omega) (by omega)).mono ?_
  rintro e W5 ⟨v7, rfl, L7, hb⟩
  replace L5 := ((L5).alloc _).next hb
  replace B := (al1 B _).trans (hb.mono (al1 B _).size)
  clear hb
  obtain ⟨A7, c7, rfl, _⟩ := id L7
  go_wp2_with fail
  refine (refToN _ (bval s.data.toList % (P g / 2 - 2) + 2) _ L7 (by omega)).mono ?_
  rintro e W6 ⟨rfl, hb⟩
  replace L5 := L5.next hb
  replace L7 := L7.next hb
  replace B := B.trans (hb.mono B.size)
  clear hb
  go_wp2
  go_ret
  exact ⟨rfl, B⟩

theorem refSreduce_any (g : Int) (s : ByteArray) (w : World) (hs : s.size ≤ 4000) :
    Calls Try.prog 11 #[.int .i64 g, .string s] w (fun e W => e = .returned (.string (txt (redN g (bval s.data.toList)))) ∧ Below w.heap.size w W) := by
  by_cases hP : P g = 0
  · rw [redN_no _ hP]
    exact refSreduce_none g s w hs hP
  · rw [redN_yes _ hP, Nat.add_comm 2]
    exact refSreduce_yes g s w hs hP

set_option maxRecDepth 100000 in
set_option maxHeartbeats 800000 in
theorem refSblind_none (g : Int) (s : ByteArray) (w : World) (hs : s.size ≤ 4000) (hP : P g = 0) :
    Calls Try.prog 13 #[.int .i64 g, .string s] w (fun e W => e = .returned (.string (txt 0)) ∧ Below w.heap.size w W) := by
  have hl5 := bytes_len s hs
  have hl24 := P_len g
  have h2l := two_len
  have HP := Lib.hid hP
  clear hP
  go_enter Try.func13, Try.ntmps13
  have B := Below.refl w.heap.size w
  go_wp2_with fail
  refine (refFrom_any s _ (by omega)).mono ?_
  rintro e W1 ⟨v3, rfl, L3, hb⟩
  have hb0 := hb
  replace B := (al1 B _).trans (hb.mono (al1 B _).size)
  clear hb
  have L := (lit_two w).next hb0
  obtain ⟨A3, c3, rfl, _⟩ := id L3
  go_wp2_with fail
  refine (refPrime_any g _).mono ?_
  rintro e W2 ⟨v4, rfl, L4, hb⟩
  replace L3 := L3.next hb
  replace L := L.next hb
  replace B := B.trans (hb.mono B.size)
  clear hb
  obtain ⟨A4, c4, rfl, _⟩ := id L4
  go_wp2_with fail
  refine (refPowerN_no _ _ _ 2 (bval s.data.toList) (P g) _ L L3 L4 (by omega) (by omega) (by omega) HP.out).mono ?_
  rintro e W3 ⟨rfl, hb⟩
  replace L3 := L3.next hb
  replace L := L.next hb
  replace L4 := L4.next hb
  replace B := B.trans (hb.mono B.size)
  clear hb
  go_wp2_with fail
  refine (refToN_nil _).mono ?_
  rintro e W4 ⟨rfl, hb⟩
  replace L3 := L3.next hb
  replace L := L.next hb
  replace L4 := L4.next hb
  replace B := B.trans (hb.mono B.size)
  clear hb
  go_wp2
  go_ret
  exact ⟨rfl, B⟩

set_option maxRecDepth 100000 in
set_option maxHeartbeats 800000 in
theorem refSblind_yes (g : Int) (s : ByteArray) (w : World) (hs : s.size ≤ 4000) (hP : P g ≠ 0) :
    Calls Try.prog 13 #[.int .i64 g, .string s] w (fun e W => e = .returned (.string (txt (pm 2 (bval s.data.toList) (P g)))) ∧ Below w.heap.size w W) := by
  have hl5 := bytes_len s hs
  have hl24 := P_len g
  have h2l := two_len
  have hlp := pm_len24 g 2 (bval s.data.toList) hP
  go_enter Try.func13, Try.ntmps13
  have B := Below.refl w.heap.size w
  go_wp2_with fail
  refine (refFrom_any s _ (by omega)).mono ?_
  rintro e W1 ⟨v3, rfl, L3, hb⟩
  have hb0 := hb
  replace B := (al1 B _).trans (hb.mono (al1 B _).size)
  clear hb
  have L := (lit_two w).next hb0
  obtain ⟨A3, c3, rfl, _⟩ := id L3
  go_wp2_with fail
  refine (refPrime_any g _).mono ?_
  rintro e W2 ⟨v4, rfl, L4, hb⟩
  replace L3 := L3.next hb
  replace L := L.next hb
  replace B := B.trans (hb.mono B.size)
  clear hb
  obtain ⟨A4, c4, rfl, _⟩ := id L4
  go_wp2_with fail
  refine (refPowerN _ _ _ 2 (bval s.data.toList) (P g) _ L L3 L4 (by omega) (by omega) (by omega) hP).mono ?_
  rintro e W3 ⟨v5, rfl, L5, hb⟩
  replace L3 := L3.next hb
  replace L := L.next hb
  replace L4 := L4.next hb
  replace B := B.trans (hb.mono B.size)
  clear hb
  obtain ⟨A5, c5, rfl, _⟩ := id L5
  go_wp2_with fail
  refine (refToN _ (pm 2 (bval s.data.toList) (P g)) _ L5 (by omega)).mono ?_
  rintro e W4 ⟨rfl, hb⟩
  replace L3 := L3.next hb
  replace L := L.next hb
  replace L4 := L4.next hb
  replace L5 := L5.next hb
  replace B := B.trans (hb.mono B.size)
  clear hb
  go_wp2
  go_ret
  exact ⟨rfl, B⟩

theorem refSblind_any (g : Int) (s : ByteArray) (w : World) (hs : s.size ≤ 4000) :
    Calls Try.prog 13 #[.int .i64 g, .string s] w (fun e W => e = .returned (.string (txt (powN g 2 (bval s.data.toList)))) ∧ Below w.heap.size w W) := by
  by_cases hP : P g = 0
  · rw [powN_no _ _ hP]
    exact refSblind_none g s w hs hP
  · rw [powN_yes _ _ hP]
    exact refSblind_yes g s w hs hP

set_option maxRecDepth 100000 in
set_option maxHeartbeats 800000 in
theorem refSagree_none (g : Int) (b s : ByteArray) (w : World) (hb0 : b.size ≤ 4000) (hs : s.size ≤ 4000) (hP : P g = 0) :
    Calls Try.prog 15 #[.int .i64 g, .string b, .string s] w (fun e W => e = .returned (.string (txt 0)) ∧ Below w.heap.size w W) := by
  have hl5 := bytes_len s hs
  have hl6 := bytes_len b hb0
  have hl24 := P_len g
  have htz : (txt 0).size ≤ 192 := by rw [txt_size]; decide
  have HP := Lib.hid hP
  clear hP
  go_enter Try.func15, Try.ntmps15
  have B := Below.refl w.heap.size w
  go_wp2_with fail
  refine (refFrom_any b _ (by omega)).mono ?_
  rintro e W1 ⟨v3, rfl, L3, hb⟩
  replace B := B.trans (hb.mono B.size)
  clear hb
  obtain ⟨A3, c3, rfl, _⟩ := id L3
  go_wp2_with fail
  refine (refFrom_any s _ (by omega)).mono ?_
  rintro e W2 ⟨v6, rfl, L6, hb⟩
  replace L3 := L3.next hb
  replace B := B.trans (hb.mono B.size)
  clear hb
  obtain ⟨A6, c6, rfl, _⟩ := id L6
  go_wp2_with fail
  refine (refPrime_any g _).mono ?_
  rintro e W3 ⟨v4, rfl, L4, hb⟩
  replace L3 := L3.next hb
  replace L6 := L6.next hb
  replace B := B.trans (hb.mono B.size)
  clear hb
  obtain ⟨A4, c4, rfl, _⟩ := id L4
  go_wp2_with fail
  refine (refPowerN_no _ _ _ (bval b.data.toList) (bval s.data.toList) (P g) _ L3 L6 L4 (by omega) (by omega) (by omega) HP.out).mono ?_
  rintro e W4 ⟨rfl, hb⟩
  replace L3 := L3.next hb
  replace L6 := L6.next hb
  replace L4 := L4.next hb
  replace B := B.trans (hb.mono B.size)
  clear hb
  go_wp2_with fail
  refine (refToN_nil _).mono ?_
  rintro e W5 ⟨rfl, hb⟩
  replace L3 := L3.next hb
  replace L6 := L6.next hb
  replace L4 := L4.next hb
  replace B := B.trans (hb.mono B.size)
  clear hb
  go_wp2_with fail
  refine (refSreduce_any g (txt 0) _ (by omega)).mono ?_
  rintro e W6 ⟨rfl, hb⟩
  rw [redN_no _ HP.out]
  replace L3 := L3.next hb
  replace L6 := L6.next hb
  replace L4 := L4.next hb
  replace B := B.trans (hb.mono B.size)
  clear hb
  go_wp2
  go_ret
  exact ⟨rfl, B⟩

set_option maxRecDepth 100000 in
set_option maxHeartbeats 800000 in
theorem refSagree_yes (g : Int) (b s : ByteArray) (w : World) (hb0 : b.size ≤ 4000) (hs : s.size ≤ 4000) (hP : P g ≠ 0) :
    Calls Try.prog 15 #[.int .i64 g, .string b, .string s] w (fun e W => e = .returned (.string (txt (redN g (pm (bval b.data.toList) (bval s.data.toList) (P g))))) ∧ Below w.heap.size w W) := by
  have hl5 := bytes_len s hs
  have hl6 := bytes_len b hb0
  have hl24 := P_len g
  have hlp := pm_len24 g (bval b.data.toList) (bval s.data.toList) hP
  have htz : (txt (pm (bval b.data.toList) (bval s.data.toList) (P g))).size ≤ 192 := by rw [txt_size, ← powN_yes _ _ hP]; exact nbyt_24 (powN_lt _ _ _)
  go_enter Try.func15, Try.ntmps15
  have B := Below.refl w.heap.size w
  go_wp2_with fail
  refine (refFrom_any b _ (by omega)).mono ?_
  rintro e W1 ⟨v3, rfl, L3, hb⟩
  replace B := B.trans (hb.mono B.size)
  clear hb
  obtain ⟨A3, c3, rfl, _⟩ := id L3
  go_wp2_with fail
  refine (refFrom_any s _ (by omega)).mono ?_
  rintro e W2 ⟨v6, rfl, L6, hb⟩
  replace L3 := L3.next hb
  replace B := B.trans (hb.mono B.size)
  clear hb
  obtain ⟨A6, c6, rfl, _⟩ := id L6
  go_wp2_with fail
  refine (refPrime_any g _).mono ?_
  rintro e W3 ⟨v4, rfl, L4, hb⟩
  replace L3 := L3.next hb
  replace L6 := L6.next hb
  replace B := B.trans (hb.mono B.size)
  clear hb
  obtain ⟨A4, c4, rfl, _⟩ := id L4
  go_wp2_with fail
  refine (refPowerN _ _ _ (bval b.data.toList) (bval s.data.toList) (P g) _ L3 L6 L4 (by omega) (by omega) (by omega) hP).mono ?_
  rintro e W4 ⟨v5, rfl, L5, hb⟩
  replace L3 := L3.next hb
  replace L6 := L6.next hb
  replace L4 := L4.next hb
  replace B := B.trans (hb.mono B.size)
  clear hb
  obtain ⟨A5, c5, rfl, _⟩ := id L5
  go_wp2_with fail
  refine (refToN _ (pm (bval b.data.toList) (bval s.data.toList) (P g)) _ L5 (by omega)).mono ?_
  rintro e W5 ⟨rfl, hb⟩
  replace L3 := L3.next hb
  replace L6 := L6.next hb
  replace L4 := L4.next hb
  replace L5 := L5.next hb
  replace B := B.trans (hb.mono B.size)
  clear hb
  go_wp2_with fail
  refine (refSreduce_any g (txt (pm (bval b.data.toList) (bval s.data.toList) (P g))) _ (by omega)).mono ?_
  rintro e W6 ⟨rfl, hb⟩
  rw [txt_val]
  replace L3 := L3.next hb
  replace L6 := L6.next hb
  replace L4 := L4.next hb
  replace L5 := L5.next hb
  replace B := B.trans (hb.mono B.size)
  clear hb
  go_wp2
  go_ret
  exact ⟨rfl, B⟩

theorem refSagree_any (g : Int) (b s : ByteArray) (w : World) (hb0 : b.size ≤ 4000) (hs : s.size ≤ 4000) :
    Calls Try.prog 15 #[.int .i64 g, .string b, .string s] w (fun e W => e = .returned (.string (txt (redN g (powN g (bval b.data.toList) (bval s.data.toList))))) ∧ Below w.heap.size w W) := by
  by_cases hP : P g = 0
  · rw [redN_no _ hP]
    exact refSagree_none g b s w hb0 hs hP
  · rw [powN_yes _ _ hP]
    exact refSagree_yes g b s w hb0 hs hP


end Go.Proofs.Ytilbkfgbbajelaa
