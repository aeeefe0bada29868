/- Several texts in one: each part says what it proves, and under which conditions. -/
import Derived.Test.YtjnefacdindamaaGreatDoorGrpA
import Derived.Test.YtjnefacdindamaaGreatDoorNumA
import Derived.Test.YtjnefacdindamaaGreatDoorOctSA

/- The functions of package secret: Right, Reduce, Blind, Agree, by the numbers that the texts are. Conditions: Reduce, Blind, Agree are asked of texts of at most four thousand bytes. -/
namespace Go.Proofs.YtjnefacdindamaaGreatDoor
open Go.RowKit Go.Shelf Num
set_option linter.unusedVariables false
set_option maxRecDepth 100000

/-- The text of a number, whole. -/
@[irreducible] def txt (n : Nat) : ByteArray := ⟨(byts n).toArray⟩
theorem txt_is (n : Nat) : txt n = ⟨(byts n).toArray⟩ := by unfold txt; rfl
theorem txt_data (n : Nat) : (txt n).data.toList = byts n := by rw [txt_is]
theorem txt_size (n : Nat) : (txt n).size = nbyt n := by rw [size_data, txt_data, byts_length]
theorem txt_val (n : Nat) : bval (txt n).data.toList = n := by rw [txt_data, bval_bytes]
theorem two_limbs : limbs 2 = [2] := limbs_1 (by omega) (by omega)
theorem lit_two (w : World) : Lim (w.alloc (.cells #[.int .u64 2] 74)).heap.size (w.alloc (.cells #[.int .u64 2] 74)) (.slice (some ⟨w.heap.size, 0, none⟩) 1 1) (limbs 2) := by
  rw [two_limbs]
  exact lim_lit1 w 2 (under (by omega))
theorem two_len : (limbs 2).length = 1 := by rw [two_limbs]; rfl
theorem mod_len {n g : Nat} (k : Nat) (h0 : g ≠ 0) (h : g < M ^ k) : (limbs (n % g)).length ≤ k := limbs_len (Nat.lt_trans (Nat.mod_lt _ (by omega)) h)
theorem bytes_len (s : ByteArray) (h : s.size ≤ 4000) : (limbs (bval s.data.toList)).length ≤ 500 := limbs_len_bytes s.data.toList (k := 500) (by rw [← size_data]; omega)

theorem compareN (v u : Value) (a b : Nat) (w : World) (hLa : Lim w.heap.size w v (limbs a)) (hLb : Lim w.heap.size w u (limbs b)) (hlx : (limbs a).length ≤ 34359738368) (hly : (limbs b).length ≤ 34359738368) :
    Calls Tryz.prog 120 #[v, u] w (fun e W' => e = .returned (.int .i64 (cmpN a b)) ∧ Below w.heap.size w W') := by
  have h := compare_any v u (limbs a) (limbs b) w hLa hLb (by omega) (by omega)
  rwa [val_limbs, val_limbs] at h
theorem addN (v u : Value) (a b : Nat) (w : World) (hLa : Lim w.heap.size w v (limbs a)) (hLb : Lim w.heap.size w u (limbs b)) (hlx : (limbs a).length ≤ 34359738368) (hly : (limbs b).length ≤ 34359738368) :
    Calls Tryz.prog 90 #[v, u] w (Gives (a + b) w) := by
  have h := add_any v u (limbs a) (limbs b) w hLa hLb (by omega) (by omega)
  rwa [val_limbs, val_limbs] at h
theorem subN (v u : Value) (a b : Nat) (w : World) (hLa : Lim w.heap.size w v (limbs a)) (hLb : Lim w.heap.size w u (limbs b)) (hlx : (limbs a).length ≤ 34359738368) (hly : (limbs b).length ≤ 34359738368) (hle : b ≤ a) :
    Calls Tryz.prog 86 #[v, u] w (fun e W' => ∃ r, e = .returned (.tuple #[r, .bool true]) ∧ Lim W'.heap.size W' r (limbs (a - b)) ∧ Below w.heap.size w W') := by
  have h := sub_yes v u (limbs a) (limbs b) w hLa hLb (by omega) (by omega) (by rw [val_limbs, val_limbs]; exact hle)
  rwa [val_limbs, val_limbs] at h
theorem subN_no (v u : Value) (a b : Nat) (w : World) (hLa : Lim w.heap.size w v (limbs a)) (hLb : Lim w.heap.size w u (limbs b)) (hlx : (limbs a).length ≤ 34359738368) (hly : (limbs b).length ≤ 34359738368) (hlt : a < b) :
    Calls Tryz.prog 86 #[v, u] w (fun e W' => e = .returned (.tuple #[.slice none 0 0, .bool false]) ∧ Below w.heap.size w W') :=
  sub_no v u (limbs a) (limbs b) w hLa hLb (by omega) (by omega) (by rw [val_limbs, val_limbs]; exact hlt)
theorem restN (v u : Value) (a b : Nat) (w : World) (hLa : Lim w.heap.size w v (limbs a)) (hLb : Lim w.heap.size w u (limbs b)) (hlx : (limbs a).length ≤ 34359738368) (hly : (limbs b).length ≤ 34359738368) (h0 : b ≠ 0) :
    Calls Tryz.prog 89 #[v, u] w (GivesOk (a % b) w) := by
  have h := rest_any v u (limbs a) (limbs b) w hLa hLb (by omega) (by omega) (by rw [val_limbs]; exact h0)
  rwa [val_limbs, val_limbs] at h
theorem powerN (v u z : Value) (a b c : Nat) (w : World) (hLa : Lim w.heap.size w v (limbs a)) (hLb : Lim w.heap.size w u (limbs b)) (hLc : Lim w.heap.size w z (limbs c)) (hlx : (limbs a).length ≤ 34359738368) (hly : (limbs b).length ≤ 34359738368) (hlz : (limbs c).length ≤ 34359738368) (h0 : c ≠ 0) :
    Calls Tryz.prog 76 #[v, u, z] w (GivesOk (pm a b c) w) := by
  have h := power_any v u z (limbs a) (limbs b) (limbs c) w hLa hLb hLc (by omega) (by omega) (by omega) (by rw [val_limbs]; exact h0)
  rwa [val_limbs, val_limbs, val_limbs] at h
theorem powerN_no (v u z : Value) (a b c : Nat) (w : World) (hLa : Lim w.heap.size w v (limbs a)) (hLb : Lim w.heap.size w u (limbs b)) (hLc : Lim w.heap.size w z (limbs c)) (hlx : (limbs a).length ≤ 34359738368) (hly : (limbs b).length ≤ 34359738368) (hlz : (limbs c).length ≤ 34359738368) (h0 : c = 0) :
    Calls Tryz.prog 76 #[v, u, z] w (GivesNo w) :=
  power_zero v u z (limbs a) (limbs b) (limbs c) w hLa hLb hLc (by omega) (by omega) (by omega) (by rw [val_limbs]; exact h0)
theorem toN (v : Value) (a : Nat) (w : World) (hL : Lim w.heap.size w v (limbs a)) (hlx : (limbs a).length ≤ 34359738368) :
    Calls Tryz.prog 78 #[v] w fun e W' => e = .returned (.string (txt a)) ∧ Below w.heap.size w W' := by
  have h := to_any v (limbs a) w hL (by omega)
  rwa [val_limbs, ← txt_is] at h
theorem toN_nil (w : World) :
    Calls Tryz.prog 78 #[.slice none 0 0] w fun e W' => e = .returned (.string (txt 0)) ∧ Below w.heap.size w W' :=
  toN _ 0 w (by rw [limbs_zero]; exact Lim.nil _ _) (by rw [limbs_zero]; simp)

set_option maxHeartbeats 1000000 in
theorem least_any (w : World) : Calls Tryz.prog 88 #[] w (Gives 2 w) := by
  go_enter Tryz.func88, Tryz.ntmps88
  go_wp2
  go_ret
  exact ⟨_, rfl, lit_two w, al1 (Below.refl _ w) _⟩

theorem sec_no {g : Int} {l : List UInt8} (h : ¬ (P g ≠ 0 ∧ l.length ≤ 400 ∧ whole l = true ∧ 2 ≤ bval l ∧ bval l < P g / 2)) : Ending.returned (.bool false) = .returned (.bool (isS g l)) := ret_bool (isS_no h).symm
theorem isG_P {g : Int} : isG g = true → P g ≠ 0 := fun h => by unfold isG at h; simpa using h
theorem isG_no {g : Int} : isG g = false → P g = 0 := fun h => by unfold isG at h; simpa using h
theorem cmp_lt {a b : Nat} (h : a < b) : decide (cmpN a b < 0) = true := by rw [cmpN_lt h]; rfl
theorem cmp_nlt {a b : Nat} (h : b ≤ a) : decide (cmpN a b < 0) = false := decide_eq_false (by
  unfold cmpN
  rw [if_neg (by omega)]
  split <;> decide)
set_option maxRecDepth 100000 in
set_option maxHeartbeats 800000 in
theorem sreduce_none (g : Int) (s : ByteArray) (w : World) (hs : s.size ≤ 4000) (hP : P g = 0) :
    Calls Tryz.prog 71 #[.int .i64 g, .string s] w (fun e W => e = .returned (.string (txt 0)) ∧ Below w.heap.size w W) := by
  have hlh := half_len g
  have h2l := two_len
  have hz : P g / 2 < 2 := by rw [hP]; decide
  have HP := Lib.hid hP
  clear hP
  go_enter Tryz.func71, Tryz.ntmps71
  have B := Below.refl w.heap.size w
  go_wp2_with fail
  refine (order_any g _).mono ?_
  rintro e W1 ⟨v1, rfl, L1, hb⟩
  replace B := B.trans (hb.mono B.size)
  clear hb
  obtain ⟨A1, c1, rfl, _⟩ := id L1
  go_wp2_with fail
  refine (least_any _).mono ?_
  rintro e W2 ⟨v2, rfl, L2, hb⟩
  replace L1 := L1.next hb
  replace B := B.trans (hb.mono B.size)
  clear hb
  obtain ⟨A2, c2, rfl, _⟩ := id L2
  go_wp2_with fail
  refine (subN_no _ _ (P g / 2) 2 _ L1 L2 (by omega) (by omega) (by omega)).mono ?_
  rintro e W3 ⟨rfl, hb⟩
  replace L1 := L1.next hb
  replace L2 := L2.next hb
  replace B := B.trans (hb.mono B.size)
  clear hb
  go_wp2
  go_ret
  exact ⟨by rw [txt_is]; rfl, B⟩

set_option maxRecDepth 100000 in
set_option maxHeartbeats 800000 in
theorem sreduce_yes (g : Int) (s : ByteArray) (w : World) (hs : s.size ≤ 4000) (hP : P g ≠ 0) :
    Calls Tryz.prog 71 #[.int .i64 g, .string s] w (fun e W => e = .returned (.string (txt (2 + bval s.data.toList % (P g / 2 - 2)))) ∧ Below w.heap.size w W) := by
  have hlh := half_len g
  have h2l := two_len
  have hq := q_big hP
  have hl5 := bytes_len s hs
  have hlt := red_lt (bval s.data.toList) hP
  have hll := P_lt g
  have e1 : (limbs (P g / 2 - 2)).length ≤ 24 := limbs_len (by omega)
  have e2 : (limbs (bval s.data.toList % (P g / 2 - 2))).length ≤ 24 := limbs_len (by omega)
  have e3 : (limbs (2 + bval s.data.toList % (P g / 2 - 2))).length ≤ 24 := limbs_len (by omega)
  clear hlt hll
  go_enter Tryz.func71, Tryz.ntmps71
  have B := Below.refl w.heap.size w
  go_wp2_with fail
  refine (order_any g _).mono ?_
  rintro e W1 ⟨v1, rfl, L1, hb⟩
  replace B := B.trans (hb.mono B.size)
  clear hb
  obtain ⟨A1, c1, rfl, _⟩ := id L1
  go_wp2_with fail
  refine (least_any _).mono ?_
  rintro e W2 ⟨v2, rfl, L2, hb⟩
  replace L1 := L1.next hb
  replace B := B.trans (hb.mono B.size)
  clear hb
  obtain ⟨A2, c2, rfl, _⟩ := id L2
  go_wp2_with fail
  refine (subN _ _ (P g / 2) 2 _ L1 L2 (by omega) (by omega) (by omega)).mono ?_
  rintro e W3 ⟨v3, rfl, L3, hb⟩
  replace L1 := L1.next hb
  replace L2 := L2.next hb
  replace B := B.trans (hb.mono B.size)
  clear hb
  obtain ⟨A3, c3, rfl, _⟩ := id L3
  go_wp2_with fail
  refine (from_any s _ (by omega)).mono ?_
  rintro e W4 ⟨v4, rfl, L4, hb⟩
  replace L3 := L3.next hb
  replace B := B.trans (hb.mono B.size)
  clear hb
  obtain ⟨A4, c4, rfl, _⟩ := id L4
  go_wp2_with fail
  refine (restN _ _ (bval s.data.toList) (P g / 2 - 2) _ L4 L3 (by omega) (by omega) (by omega)).mono ?_
  rintro e W5 ⟨v5, rfl, L5, hb⟩
  replace L3 := L3.next hb
  replace L4 := L4.next hb
  replace B := B.trans (hb.mono B.size)
  clear hb
  obtain ⟨A5, c5, rfl, _⟩ := id L5
  go_wp2_with fail
  refine (least_any _).mono ?_
  rintro e W6 ⟨v6, rfl, L6, hb⟩
  replace L5 := L5.next hb
  replace B := B.trans (hb.mono B.size)
  clear hb
  obtain ⟨A6, c6, rfl, _⟩ := id L6
  go_wp2_with fail
  refine (addN _ _ 2 (bval s.data.toList % (P g / 2 - 2)) _ L6 L5 (by omega) (by omega)).mono ?_
  rintro e W7 ⟨v7, rfl, L7, hb⟩
  replace L5 := L5.next hb
  replace L6 := L6.next hb
  replace B := B.trans (hb.mono B.size)
  clear hb
  obtain ⟨A7, c7, rfl, _⟩ := id L7
  go_wp2_with fail
  refine (toN _ (2 + bval s.data.toList % (P g / 2 - 2)) _ L7 (by omega)).mono ?_
  rintro e W8 ⟨rfl, hb⟩
  replace L5 := L5.next hb
  replace L6 := L6.next hb
  replace L7 := L7.next hb
  replace B := B.trans (hb.mono B.size)
  clear hb
  go_wp2
  go_ret
  exact ⟨rfl, B⟩

theorem sreduce_any (g : Int) (s : ByteArray) (w : World) (hs : s.size ≤ 4000) :
    Calls Tryz.prog 71 #[.int .i64 g, .string s] w (fun e W => e = .returned (.string (txt (redN g (bval s.data.toList)))) ∧ Below w.heap.size w W) := by
  by_cases hP : P g = 0
  · rw [redN_no _ hP]
    exact sreduce_none g s w hs hP
  · rw [redN_yes _ hP]
    exact sreduce_yes g s w hs hP

set_option maxRecDepth 100000 in
set_option maxHeartbeats 800000 in
theorem spower_none (g : Int) (v : Value) (a : Nat) (s : ByteArray) (w : World) (L : Lim w.heap.size w v (limbs a)) (hla : (limbs a).length ≤ 500) (hs : s.size ≤ 4000) (hP : P g = 0) :
    Calls Tryz.prog 56 #[.int .i64 g, v, .string s] w (fun e W => e = .returned (.string (txt 0)) ∧ Below w.heap.size w W) := by
  have hl5 := bytes_len s hs
  have hl24 := P_len g
  have HP := Lib.hid hP
  clear hP
  obtain ⟨A0, c0, rfl, _⟩ := id L
  go_enter Tryz.func56, Tryz.ntmps56
  have B := Below.refl w.heap.size w
  go_wp2_with fail
  refine (from_any s _ (by omega)).mono ?_
  rintro e W1 ⟨v3, rfl, L3, hb⟩
  replace L := L.next hb
  replace B := B.trans (hb.mono B.size)
  clear hb
  obtain ⟨A3, c3, rfl, _⟩ := id L3
  go_wp2_with fail
  refine (prime_any g _).mono ?_
  rintro e W2 ⟨v4, rfl, L4, hb⟩
  replace L := L.next hb
  replace L3 := L3.next hb
  replace B := B.trans (hb.mono B.size)
  clear hb
  obtain ⟨A4, c4, rfl, _⟩ := id L4
  go_wp2_with fail
  refine (powerN_no _ _ _ a (bval s.data.toList) (P g) _ L L3 L4 (by omega) (by omega) (by omega) HP.out).mono ?_
  rintro e W3 ⟨rfl, hb⟩
  replace L := L.next hb
  replace L3 := L3.next hb
  replace L4 := L4.next hb
  replace B := B.trans (hb.mono B.size)
  clear hb
  go_wp2_with fail
  refine (toN_nil _).mono ?_
  rintro e W4 ⟨rfl, hb⟩
  replace L := L.next hb
  replace L3 := L3.next hb
  replace L4 := L4.next hb
  replace B := B.trans (hb.mono B.size)
  clear hb
  go_wp2
  go_ret
  exact ⟨rfl, B⟩

set_option maxRecDepth 100000 in
set_option maxHeartbeats 800000 in
theorem spower_yes (g : Int) (v : Value) (a : Nat) (s : ByteArray) (w : World) (L : Lim w.heap.size w v (limbs a)) (hla : (limbs a).length ≤ 500) (hs : s.size ≤ 4000) (hP : P g ≠ 0) :
    Calls Tryz.prog 56 #[.int .i64 g, v, .string s] w (fun e W => e = .returned (.string (txt (pm a (bval s.data.toList) (P g)))) ∧ Below w.heap.size w W) := by
  have hl5 := bytes_len s hs
  have hl24 := P_len g
  have hlp := pm_len24 g a (bval s.data.toList) hP
  obtain ⟨A0, c0, rfl, _⟩ := id L
  go_enter Tryz.func56, Tryz.ntmps56
  have B := Below.refl w.heap.size w
  go_wp2_with fail
  refine (from_any s _ (by omega)).mono ?_
  rintro e W1 ⟨v3, rfl, L3, hb⟩
  replace L := L.next hb
  replace B := B.trans (hb.mono B.size)
  clear hb
  obtain ⟨A3, c3, rfl, _⟩ := id L3
  go_wp2_with fail
  refine (prime_any g _).mono ?_
  rintro e W2 ⟨v4, rfl, L4, hb⟩
  replace L := L.next hb
  replace L3 := L3.next hb
  replace B := B.trans (hb.mono B.size)
  clear hb
  obtain ⟨A4, c4, rfl, _⟩ := id L4
  go_wp2_with fail
  refine (powerN _ _ _ a (bval s.data.toList) (P g) _ L L3 L4 (by omega) (by omega) (by omega) hP).mono ?_
  rintro e W3 ⟨v5, rfl, L5, hb⟩
  replace L := L.next hb
  replace L3 := L3.next hb
  replace L4 := L4.next hb
  replace B := B.trans (hb.mono B.size)
  clear hb
  obtain ⟨A5, c5, rfl, _⟩ := id L5
  go_wp2_with fail
  refine (toN _ (pm a (bval s.data.toList) (P g)) _ L5 (by omega)).mono ?_
  rintro e W4 ⟨rfl, hb⟩
  replace L := L.next hb
  replace L3 := L3.next hb
  replace L4 := L4.next hb
  replace L5 := L5.next hb
  replace B := B.trans (hb.mono B.size)
  clear hb
  go_wp2
  go_ret
  exact ⟨rfl, B⟩

theorem spower_any (g : Int) (v : Value) (a : Nat) (s : ByteArray) (w : World) (L : Lim w.heap.size w v (limbs a)) (hla : (limbs a).length ≤ 500) (hs : s.size ≤ 4000) :
    Calls Tryz.prog 56 #[.int .i64 g, v, .string s] w (fun e W => e = .returned (.string (txt (powN g a (bval s.data.toList)))) ∧ Below w.heap.size w W) := by
  by_cases hP : P g = 0
  · rw [powN_no _ _ hP]
    exact spower_none g v a s w L hla hs hP
  · rw [powN_yes _ _ hP]
    exact spower_yes g v a s w L hla hs hP

set_option maxRecDepth 100000 in
set_option maxHeartbeats 800000 in
theorem sblind_any (g : Int) (s : ByteArray) (w : World) (hs : s.size ≤ 4000) :
    Calls Tryz.prog 34 #[.int .i64 g, .string s] w (fun e W => e = .returned (.string (txt (powN g 2 (bval s.data.toList)))) ∧ Below w.heap.size w W) := by
  have h2l := two_len
  go_enter Tryz.func34, Tryz.ntmps34
  have B := Below.refl w.heap.size w
  go_wp2_with fail
  refine (spower_any g _ 2 s _ (lit_two _) (by omega) hs).mono ?_
  rintro e W1 ⟨rfl, hb⟩
  replace B := (al1 B _).trans (hb.mono (al1 B _).size)
  clear hb
  go_wp2
  go_ret
  exact ⟨rfl, B⟩

set_option maxRecDepth 100000 in
set_option maxHeartbeats 800000 in
theorem sagree_any (g : Int) (b s : ByteArray) (w : World) (hb0 : b.size ≤ 4000) (hs : s.size ≤ 4000) :
    Calls Tryz.prog 53 #[.int .i64 g, .string b, .string s] w (fun e W => e = .returned (.string (txt (redN g (powN g (bval b.data.toList) (bval s.data.toList))))) ∧ Below w.heap.size w W) := by
  have hl5 := bytes_len b hb0
  have htz : (txt (powN g (bval b.data.toList) (bval s.data.toList))).size ≤ 192 := by rw [txt_size]; exact nbyt_24 (powN_lt _ _ _)
  go_enter Tryz.func53, Tryz.ntmps53
  have B := Below.refl w.heap.size w
  go_wp2_with fail
  refine (from_any b _ (by omega)).mono ?_
  rintro e W1 ⟨v3, rfl, L3, hb⟩
  replace B := B.trans (hb.mono B.size)
  clear hb
  obtain ⟨A3, c3, rfl, _⟩ := id L3
  go_wp2_with fail
  refine (spower_any g _ (bval b.data.toList) s _ L3 (by omega) hs).mono ?_
  rintro e W2 ⟨rfl, hb⟩
  replace L3 := L3.next hb
  replace B := B.trans (hb.mono B.size)
  clear hb
  go_wp2_with fail
  refine (sreduce_any g (txt (powN g (bval b.data.toList) (bval s.data.toList))) _ (by omega)).mono ?_
  rintro e W3 ⟨rfl, hb⟩
  rw [txt_val]
  replace B := B.trans (hb.mono B.size)
  clear hb
  go_wp2
  go_ret
  exact ⟨rfl, B⟩


end Go.Proofs.YtjnefacdindamaaGreatDoor


/- The document's own answers of layer 6 (package lodgeref06): Right, Reduce, Blind, Agree. Conditions: texts of at most four thousand bytes. -/
namespace Go.Proofs.YtjnefacdindamaaGreatDoor
open Go.RowKit Go.Shelf Num
set_option linter.unusedVariables false
set_option maxRecDepth 100000

theorem refCompareN (v u : Value) (a b : Nat) (w : World) (hLa : Lim w.heap.size w v (limbs a)) (hLb : Lim w.heap.size w u (limbs b)) (hlx : (limbs a).length ≤ 34359738368) (hly : (limbs b).length ≤ 34359738368) :
    Calls Tryz.prog 42 #[v, u] w (fun e W' => e = .returned (.int .i64 (cmpN a b)) ∧ w = W') := by
  have h := refCompare_any v u (limbs a) (limbs b) w hLa hLb (by omega) (by omega)
  rwa [val_limbs, val_limbs] at h
theorem refAddN (v u : Value) (a b : Nat) (w : World) (hLa : Lim w.heap.size w v (limbs a)) (hLb : Lim w.heap.size w u (limbs b)) (hlx : (limbs a).length ≤ 34359738368) (hly : (limbs b).length ≤ 34359738368) :
    Calls Tryz.prog 69 #[v, u] w (Gives (a + b) w) := by
  have h := refAdd_any v u (limbs a) (limbs b) w hLa hLb (by omega) (by omega)
  rwa [val_limbs, val_limbs] at h
theorem refSubN (v u : Value) (a b : Nat) (w : World) (hLa : Lim w.heap.size w v (limbs a)) (hLb : Lim w.heap.size w u (limbs b)) (hlx : (limbs a).length ≤ 34359738368) (hly : (limbs b).length ≤ 34359738368) (hle : b ≤ a) :
    Calls Tryz.prog 68 #[v, u] w (fun e W' => ∃ r, e = .returned (.tuple #[r, .bool true]) ∧ Lim W'.heap.size W' r (limbs (a - b)) ∧ Below w.heap.size w W') := by
  have h := refSub_any v u (limbs a) (limbs b) w hLa hLb (by omega) (by omega) (by rw [val_limbs, val_limbs]; exact hle)
  rwa [val_limbs, val_limbs] at h
theorem refSubN_no (v u : Value) (a b : Nat) (w : World) (hLa : Lim w.heap.size w v (limbs a)) (hLb : Lim w.heap.size w u (limbs b)) (hlx : (limbs a).length ≤ 34359738368) (hly : (limbs b).length ≤ 34359738368) (hlt : a < b) :
    Calls Tryz.prog 68 #[v, u] w (fun e W' => e = .returned (.tuple #[.slice none 0 0, .bool false]) ∧ Below w.heap.size w W') :=
  (refSub_no v u (limbs a) (limbs b) w hLa hLb (by omega) (by omega) (by rw [val_limbs, val_limbs]; exact hlt)).mono fun e W ⟨he, hw⟩ => ⟨he, by subst hw; exact Below.refl _ _⟩
theorem refRestN (v u : Value) (a b : Nat) (w : World) (hLa : Lim w.heap.size w v (limbs a)) (hLb : Lim w.heap.size w u (limbs b)) (hlx : (limbs a).length ≤ 34359738368) (hly : (limbs b).length ≤ 34359738368) (h0 : b ≠ 0) :
    Calls Tryz.prog 62 #[v, u] w (GivesOk (a % b) w) := by
  have h := refRest_any v u (limbs a) (limbs b) w hLa hLb (by omega) (by omega) (by rw [val_limbs]; exact h0)
  rwa [val_limbs, val_limbs] at h
theorem refPowerN (v u z : Value) (a b c : Nat) (w : World) (hLa : Lim w.heap.size w v (limbs a)) (hLb : Lim w.heap.size w u (limbs b)) (hLc : Lim w.heap.size w z (limbs c)) (hlx : (limbs a).length ≤ 34359738368) (hly : (limbs b).length ≤ 34359738368) (hlz : (limbs c).length ≤ 34359738368) (h0 : c ≠ 0) :
    Calls Tryz.prog 44 #[v, u, z] w (GivesOk (pm a b c) w) := by
  have h := refPower_any v u z (limbs a) (limbs b) (limbs c) w hLa hLb hLc (by omega) (by omega) (by omega) (by rw [val_limbs]; exact h0)
  rwa [val_limbs, val_limbs, val_limbs] at h
theorem refPowerN_no (v u z : Value) (a b c : Nat) (w : World) (hLa : Lim w.heap.size w v (limbs a)) (hLb : Lim w.heap.size w u (limbs b)) (hLc : Lim w.heap.size w z (limbs c)) (hlx : (limbs a).length ≤ 34359738368) (hly : (limbs b).length ≤ 34359738368) (hlz : (limbs c).length ≤ 34359738368) (h0 : c = 0) :
    Calls Tryz.prog 44 #[v, u, z] w (GivesNo w) :=
  refPower_zero v u z (limbs a) (limbs b) (limbs c) w hLa hLb hLc (by omega) (by omega) (by omega) (by rw [val_limbs]; exact h0)
theorem refToN (v : Value) (a : Nat) (w : World) (hL : Lim w.heap.size w v (limbs a)) (hlx : (limbs a).length ≤ 34359738368) :
    Calls Tryz.prog 47 #[v] w fun e W' => e = .returned (.string (txt a)) ∧ Below w.heap.size w W' := by
  have h := refTo_any v (limbs a) w hL (by omega)
  rwa [val_limbs, ← txt_is] at h
theorem refToN_nil (w : World) :
    Calls Tryz.prog 47 #[.slice none 0 0] w fun e W' => e = .returned (.string (txt 0)) ∧ Below w.heap.size w W' :=
  refToN _ 0 w (by rw [limbs_zero]; exact Lim.nil _ _) (by rw [limbs_zero]; simp)

theorem refRright (g : Int) (b : Bool) (w : World) (h : isG g = b) : Calls Tryz.prog 40 #[.int .i64 g] w fun e W => e = .returned (.bool b) ∧ Below w.heap.size w W := by
  have k := refGRight_any g w
  rw [h] at k
  exact k.mono fun e W ⟨he, hw⟩ => ⟨he, by subst hw; exact Below.refl _ _⟩
theorem refWwhole (s : ByteArray) (b : Bool) (w : World) (h : whole s.data.toList = b) : Calls Tryz.prog 41 #[.string s] w fun e W => e = .returned (.bool b) ∧ Below w.heap.size w W := by
  have k := refWhole_any s w
  rw [h] at k
  exact k.mono fun e W ⟨he, hw⟩ => ⟨he, by subst hw; exact Below.refl _ _⟩
theorem refCmp (v u : Value) (a b : Nat) (w : World) (hLa : Lim w.heap.size w v (limbs a)) (hLb : Lim w.heap.size w u (limbs b)) (hlx : (limbs a).length ≤ 34359738368) (hly : (limbs b).length ≤ 34359738368) :
    Calls Tryz.prog 42 #[v, u] w (fun e W' => e = .returned (.int .i64 (cmpN a b)) ∧ Below w.heap.size w W') :=
  (refCompareN v u a b w hLa hLb hlx hly).mono fun e W ⟨he, hw⟩ => ⟨he, by subst hw; exact Below.refl _ _⟩

set_option maxRecDepth 100000 in
set_option maxHeartbeats 800000 in
theorem refSright_none (g : Int) (s : ByteArray) (w : World) (hs : s.size ≤ 4000) (hG : isG g = false) :
    Calls Tryz.prog 19 #[.int .i64 g, .string s] w (fun e W => e = .returned (.bool (isS g s.data.toList)) ∧ Below w.heap.size w W) := by
  have hP := isG_no hG
  go_enter Tryz.func19, Tryz.ntmps19
  have B := Below.refl w.heap.size w
  go_wp2_with fail
  refine (refFrom_any s _ (by omega)).mono ?_
  rintro e W1 ⟨v3, rfl, L3, hb⟩
  replace B := B.trans (hb.mono B.size)
  clear hb
  obtain ⟨A3, c3, rfl, _⟩ := id L3
  go_wp2_with fail
  refine (refRright g false _ hG).mono ?_
  rintro e W2 ⟨rfl, hb⟩
  replace L3 := L3.next hb
  replace B := B.trans (hb.mono B.size)
  clear hb
  go_wp2
  go_ret
  exact ⟨sec_no (fun h => h.1 hP), B⟩

set_option maxRecDepth 100000 in
set_option maxHeartbeats 800000 in
theorem refSright_part (g : Int) (s : ByteArray) (w : World) (hs : s.size ≤ 4000) (hG : isG g = true) (hW : whole s.data.toList = false) :
    Calls Tryz.prog 19 #[.int .i64 g, .string s] w (fun e W => e = .returned (.bool (isS g s.data.toList)) ∧ Below w.heap.size w W) := by
  go_enter Tryz.func19, Tryz.ntmps19
  have B := Below.refl w.heap.size w
  go_wp2_with fail
  refine (refFrom_any s _ (by omega)).mono ?_
  rintro e W1 ⟨v3, rfl, L3, hb⟩
  replace B := B.trans (hb.mono B.size)
  clear hb
  obtain ⟨A3, c3, rfl, _⟩ := id L3
  go_wp2_with fail
  refine (refRright g true _ hG).mono ?_
  rintro e W2 ⟨rfl, hb⟩
  replace L3 := L3.next hb
  replace B := B.trans (hb.mono B.size)
  clear hb
  go_wp2_with fail
  refine (refWwhole s false _ hW).mono ?_
  rintro e W3 ⟨rfl, hb⟩
  replace L3 := L3.next hb
  replace B := B.trans (hb.mono B.size)
  clear hb
  go_wp2
  go_ret
  exact ⟨sec_no (fun h => by rw [hW] at h; exact absurd h.2.2.1 (by decide)), B⟩

set_option maxRecDepth 100000 in
set_option maxHeartbeats 800000 in
theorem refSright_long (g : Int) (s : ByteArray) (w : World) (hs : s.size ≤ 4000) (hG : isG g = true) (hl : ¬ s.size ≤ 400) (hW : whole s.data.toList = true) :
    Calls Tryz.prog 19 #[.int .i64 g, .string s] w (fun e W => e = .returned (.bool (isS g s.data.toList)) ∧ Below w.heap.size w W) := by
  have d : decide ((s.size : Int) ≤ 400) = false := decide_eq_false (by omega)
  go_enter Tryz.func19, Tryz.ntmps19
  have B := Below.refl w.heap.size w
  go_wp2_with fail
  refine (refFrom_any s _ (by omega)).mono ?_
  rintro e W1 ⟨v3, rfl, L3, hb⟩
  replace B := B.trans (hb.mono B.size)
  clear hb
  obtain ⟨A3, c3, rfl, _⟩ := id L3
  go_wp2_with fail
  refine (refRright g true _ hG).mono ?_
  rintro e W2 ⟨rfl, hb⟩
  replace L3 := L3.next hb
  replace B := B.trans (hb.mono B.size)
  clear hb
  go_wp2_with fail
  refine (refWwhole s true _ hW).mono ?_
  rintro e W3 ⟨rfl, hb⟩
  replace L3 := L3.next hb
  replace B := B.trans (hb.mono B.size)
  clear hb
  go_wp2
  go_ret
  exact ⟨sec_no (fun h => hl (by rw [size_data]; exact h.2.1)), B⟩

set_option maxRecDepth 100000 in
set_option maxHeartbeats 800000 in
theorem refSright_low (g : Int) (s : ByteArray) (w : World) (hG : isG g = true) (hl : s.size ≤ 400) (hW : whole s.data.toList = true) (h1 : bval s.data.toList < 2) :
    Calls Tryz.prog 19 #[.int .i64 g, .string s] w (fun e W => e = .returned (.bool (isS g s.data.toList)) ∧ Below w.heap.size w W) := by
  have hP := isG_P hG
  have hl5 := bytes_len s (by omega)
  have hlh := half_len g
  have h2l := two_len
  have d : decide ((s.size : Int) ≤ 400) = true := decide_eq_true (by omega)
  have d1 := cmp_nge h1
  go_enter Tryz.func19, Tryz.ntmps19
  have B := Below.refl w.heap.size w
  go_wp2_with fail
  refine (refFrom_any s _ (by omega)).mono ?_
  rintro e W1 ⟨v3, rfl, L3, hb⟩
  replace B := B.trans (hb.mono B.size)
  clear hb
  obtain ⟨A3, c3, rfl, _⟩ := id L3
  go_wp2_with fail
  refine (refRright g true _ hG).mono ?_
  rintro e W2 ⟨rfl, hb⟩
  replace L3 := L3.next hb
  replace B := B.trans (hb.mono B.size)
  clear hb
  go_wp2_with fail
  refine (refWwhole s true _ hW).mono ?_
  rintro e W3 ⟨rfl, hb⟩
  replace L3 := L3.next hb
  replace B := B.trans (hb.mono B.size)
  clear hb
  go_wp2_with fail
  refine (refCmp _ _ (bval s.data.toList) 2 _ (L3.alloc _) (lit_two _) (by omega) (by omega)).mono ?_
  rintro e W4 ⟨rfl, hb⟩
  replace L3 := ((L3).alloc _).next hb
  replace B := (al1 B _).trans (hb.mono (al1 B _).size)
  clear hb
  go_wp2
  go_ret
  exact ⟨sec_no (fun h => absurd h.2.2.2.1 (by omega)), B⟩

set_option maxRecDepth 100000 in
set_option maxHeartbeats 800000 in
theorem refSright_high (g : Int) (s : ByteArray) (w : World) (hG : isG g = true) (hl : s.size ≤ 400) (hW : whole s.data.toList = true) (h1 : 2 ≤ bval s.data.toList) (h2 : P g / 2 ≤ bval s.data.toList) :
    Calls Tryz.prog 19 #[.int .i64 g, .string s] w (fun e W => e = .returned (.bool (isS g s.data.toList)) ∧ Below w.heap.size w W) := by
  have hP := isG_P hG
  have hl5 := bytes_len s (by omega)
  have hlh := half_len g
  have h2l := two_len
  have d : decide ((s.size : Int) ≤ 400) = true := decide_eq_true (by omega)
  have d1 := cmp_ge h1
  have d2 := cmp_nlt h2
  go_enter Tryz.func19, Tryz.ntmps19
  have B := Below.refl w.heap.size w
  go_wp2_with fail
  refine (refFrom_any s _ (by omega)).mono ?_
  rintro e W1 ⟨v3, rfl, L3, hb⟩
  replace B := B.trans (hb.mono B.size)
  clear hb
  obtain ⟨A3, c3, rfl, _⟩ := id L3
  go_wp2_with fail
  refine (refRright g true _ hG).mono ?_
  rintro e W2 ⟨rfl, hb⟩
  replace L3 := L3.next hb
  replace B := B.trans (hb.mono B.size)
  clear hb
  go_wp2_with fail
  refine (refWwhole s true _ hW).mono ?_
  rintro e W3 ⟨rfl, hb⟩
  replace L3 := L3.next hb
  replace B := B.trans (hb.mono B.size)
  clear hb
  go_wp2_with fail
  refine (refCmp _ _ (bval s.data.toList) 2 _ (L3.alloc _) (lit_two _) (by omega) (by omega)).mono ?_
  rintro e W4 ⟨rfl, hb⟩
  replace L3 := ((L3).alloc _).next hb
  replace B := (al1 B _).trans (hb.mono (al1 B _).size)
  clear hb
  go_wp2_with fail
  refine (refOrder_any g _).mono ?_
  rintro e W5 ⟨v5, rfl, L5, hb⟩
  replace L3 := L3.next hb
  replace B := B.trans (hb.mono B.size)
  clear hb
  obtain ⟨A5, c5, rfl, _⟩ := id L5
  go_wp2_with fail
  refine (refCmp _ _ (bval s.data.toList) (P g / 2) _ L3 L5 (by omega) (by omega)).mono ?_
  rintro e W6 ⟨rfl, hb⟩
  replace L3 := L3.next hb
  replace L5 := L5.next hb
  replace B := B.trans (hb.mono B.size)
  clear hb
  go_wp2
  go_ret
  exact ⟨sec_no (fun h => absurd h.2.2.2.2 (by omega)), B⟩

set_option maxRecDepth 100000 in
set_option maxHeartbeats 800000 in
theorem refSright_in (g : Int) (s : ByteArray) (w : World) (hG : isG g = true) (hl : s.size ≤ 400) (hW : whole s.data.toList = true) (h1 : 2 ≤ bval s.data.toList) (h2 : bval s.data.toList < P g / 2) :
    Calls Tryz.prog 19 #[.int .i64 g, .string s] w (fun e W => e = .returned (.bool (isS g s.data.toList)) ∧ Below w.heap.size w W) := by
  have hP := isG_P hG
  have hl5 := bytes_len s (by omega)
  have hlh := half_len g
  have h2l := two_len
  have d : decide ((s.size : Int) ≤ 400) = true := decide_eq_true (by omega)
  have d1 := cmp_ge h1
  have d2 := cmp_lt h2
  go_enter Tryz.func19, Tryz.ntmps19
  have B := Below.refl w.heap.size w
  go_wp2_with fail
  refine (refFrom_any s _ (by omega)).mono ?_
  rintro e W1 ⟨v3, rfl, L3, hb⟩
  replace B := B.trans (hb.mono B.size)
  clear hb
  obtain ⟨A3, c3, rfl, _⟩ := id L3
  go_wp2_with fail
  refine (refRright g true _ hG).mono ?_
  rintro e W2 ⟨rfl, hb⟩
  replace L3 := L3.next hb
  replace B := B.trans (hb.mono B.size)
  clear hb
  go_wp2_with fail
  refine (refWwhole s true _ hW).mono ?_
  rintro e W3 ⟨rfl, hb⟩
  replace L3 := L3.next hb
  replace B := B.trans (hb.mono B.size)
  clear hb
  go_wp2_with fail
  refine (refCmp _ _ (bval s.data.toList) 2 _ (L3.alloc _) (lit_two _) (by omega) (by omega)).mono ?_
  rintro e W4 ⟨rfl, hb⟩
  replace L3 := ((L3).alloc _).next hb
  replace B := (al1 B _).trans (hb.mono (al1 B _).size)
  clear hb
  go_wp2_with fail
  refine (refOrder_any g _).mono ?_
  rintro e W5 ⟨v5, rfl, L5, hb⟩
  replace L3 := L3.next hb
  replace B := B.trans (hb.mono B.size)
  clear hb
  obtain ⟨A5, c5, rfl, _⟩ := id L5
  go_wp2_with fail
  refine (refCmp _ _ (bval s.data.toList) (P g / 2) _ L3 L5 (by omega) (by omega)).mono ?_
  rintro e W6 ⟨rfl, hb⟩
  replace L3 := L3.next hb
  replace L5 := L5.next hb
  replace B := B.trans (hb.mono B.size)
  clear hb
  go_wp2
  go_ret
  exact ⟨ret_bool (isS_iff.2 ⟨hP, by rw [← size_data]; exact hl, hW, h1, h2⟩).symm, B⟩

theorem refSright_any (g : Int) (s : ByteArray) (w : World) (hs : s.size ≤ 4000) :
    Calls Tryz.prog 19 #[.int .i64 g, .string s] w (fun e W => e = .returned (.bool (isS g s.data.toList)) ∧ Below w.heap.size w W) := by
  cases hG : isG g with
  | false => exact refSright_none g s w hs hG
  | true =>
    cases hW : whole s.data.toList with
    | false => exact refSright_part g s w hs hG hW
    | true =>
      by_cases hl : s.size ≤ 400
      rotate_left
      · exact refSright_long g s w hs hG hl hW
      rcases Nat.lt_or_ge (bval s.data.toList) 2 with h1 | h1
      · exact refSright_low g s w hG hl hW h1
      · rcases Nat.lt_or_ge (bval s.data.toList) (P g / 2) with h2 | h2
        · exact refSright_in g s w hG hl hW h1 h2
        · exact refSright_high g s w hG hl hW h1 h2

set_option maxRecDepth 100000 in
set_option maxHeartbeats 800000 in
theorem refSreduce_none (g : Int) (s : ByteArray) (w : World) (hs : s.size ≤ 4000) (hP : P g = 0) :
    Calls Tryz.prog 46 #[.int .i64 g, .string s] w (fun e W => e = .returned (.string (txt 0)) ∧ Below w.heap.size w W) := by
  have hlh := half_len g
  have h2l := two_len
  have hz : P g / 2 < 2 := by rw [hP]; decide
  have HP := Lib.hid hP
  clear hP
  go_enter Tryz.func46, Tryz.ntmps46
  have B := Below.refl w.heap.size w
  go_wp2_with fail
  refine (refOrder_any g _).mono ?_
  rintro e W1 ⟨v1, rfl, L1, hb⟩
  replace B := B.trans (hb.mono B.size)
  clear hb
  obtain ⟨A1, c1, rfl, _⟩ := id L1
  go_wp2_with fail
  refine (refSubN_no _ _ (P g / 2) 2 _ (L1.alloc _) (lit_two _) (by omega) (by omega) (by omega)).mono ?_
  rintro e W2 ⟨rfl, hb⟩
  replace L1 := ((L1).alloc _).next hb
  replace B := (al1 B _).trans (hb.mono (al1 B _).size)
  clear hb
  go_wp2
  go_ret
  exact ⟨by rw [txt_is]; rfl, B⟩

set_option maxRecDepth 100000 in
set_option maxHeartbeats 800000 in
theorem refSreduce_yes (g : Int) (s : ByteArray) (w : World) (hs : s.size ≤ 4000) (hP : P g ≠ 0) :
    Calls Tryz.prog 46 #[.int .i64 g, .string s] w (fun e W => e = .returned (.string (txt (bval s.data.toList % (P g / 2 - 2) + 2))) ∧ Below w.heap.size w W) := by
  have hlh := half_len g
  have h2l := two_len
  have hq := q_big hP
  have hl5 := bytes_len s hs
  have hlt := red_lt (bval s.data.toList) hP
  have hll := P_lt g
  have e1 : (limbs (P g / 2 - 2)).length ≤ 24 := limbs_len (by omega)
  have e2 : (limbs (bval s.data.toList % (P g / 2 - 2))).length ≤ 24 := limbs_len (by omega)
  have e3 : (limbs (bval s.data.toList % (P g / 2 - 2) + 2)).length ≤ 24 := limbs_len (by omega)
  clear hlt hll
  go_enter Tryz.func46, Tryz.ntmps46
  have B := Below.refl w.heap.size w
  go_wp2_with fail
  refine (refOrder_any g _).mono ?_
  rintro e W1 ⟨v1, rfl, L1, hb⟩
  replace B := B.trans (hb.mono B.size)
  clear hb
  obtain ⟨A1, c1, rfl, _⟩ := id L1
  go_wp2_with fail
  refine (refSubN _ _ (P g / 2) 2 _ (L1.alloc _) (lit_two _) (by omega) (by omega) (by omega)).mono ?_
  rintro e W2 ⟨v3, rfl, L3, hb⟩
  replace L1 := ((L1).alloc _).next hb
  replace B := (al1 B _).trans (hb.mono (al1 B _).size)
  clear hb
  obtain ⟨A3, c3, rfl, _⟩ := id L3
  go_wp2_with fail
  refine (refFrom_any s _ (by omega)).mono ?_
  rintro e W3 ⟨v4, rfl, L4, hb⟩
  replace L3 := L3.next hb
  replace B := B.trans (hb.mono B.size)
  clear hb
  obtain ⟨A4, c4, rfl, _⟩ := id L4
  go_wp2_with fail
  refine (refRestN _ _ (bval s.data.toList) (P g / 2 - 2) _ L4 L3 (by omega) (by omega) (by omega)).mono ?_
  rintro e W4 ⟨v5, rfl, L5, hb⟩
  replace L3 := L3.next hb
  replace L4 := L4.next hb
  replace B := B.trans (hb.mono B.size)
  clear hb
  obtain ⟨A5, c5, rfl, _⟩ := id L5
  go_wp2_with fail
  refine (refAddN _ _ (bval s.data.toList % (P g / 2 - 2)) 2 _ (L5.alloc _) (lit_two _) (by omega) (by omega)).mono ?_
  rintro e W5 ⟨v7, rfl, L7, hb⟩
  replace L5 := ((L5).alloc _).next hb
  replace B := (al1 B _).trans (hb.mono (al1 B _).size)
  clear hb
  obtain ⟨A7, c7, rfl, _⟩ := id L7
  go_wp2_with fail
  refine (refToN _ (bval s.data.toList % (P g / 2 - 2) + 2) _ L7 (by omega)).mono ?_
  rintro e W6 ⟨rfl, hb⟩
  replace L5 := L5.next hb
  replace L7 := L7.next hb
  replace B := B.trans (hb.mono B.size)
  clear hb
  go_wp2
  go_ret
  exact ⟨rfl, B⟩

theorem refSreduce_any (g : Int) (s : ByteArray) (w : World) (hs : s.size ≤ 4000) :
    Calls Tryz.prog 46 #[.int .i64 g, .string s] w (fun e W => e = .returned (.string (txt (redN g (bval s.data.toList)))) ∧ Below w.heap.size w W) := by
  by_cases hP : P g = 0
  · rw [redN_no _ hP]
    exact refSreduce_none g s w hs hP
  · rw [redN_yes _ hP, Nat.add_comm 2]
    exact refSreduce_yes g s w hs hP

set_option maxRecDepth 100000 in
set_option maxHeartbeats 800000 in
theorem refSblind_none (g : Int) (s : ByteArray) (w : World) (hs : s.size ≤ 4000) (hP : P g = 0) :
    Calls Tryz.prog 21 #[.int .i64 g, .string s] w (fun e W => e = .returned (.string (txt 0)) ∧ Below w.heap.size w W) := by
  have hl5 := bytes_len s hs
  have hl24 := P_len g
  have h2l := two_len
  have HP := Lib.hid hP
  clear hP
  go_enter Tryz.func21, Tryz.ntmps21
  have B := Below.refl w.heap.size w
  go_wp2_with fail
  refine (refFrom_any s _ (by omega)).mono ?_
  rintro e W1 ⟨v3, rfl, L3, hb⟩
  have hb0 := hb
  replace B := (al1 B _).trans (hb.mono (al1 B _).size)
  clear hb
  have L := (lit_two w).next hb0
  obtain ⟨A3, c3, rfl, _⟩ := id L3
  go_wp2_with fail
  refine (refPrime_any g _).mono ?_
  rintro e W2 ⟨v4, rfl, L4, hb⟩
  replace L3 := L3.next hb
  replace L := L.next hb
  replace B := B.trans (hb.mono B.size)
  clear hb
  obtain ⟨A4, c4, rfl, _⟩ := id L4
  go_wp2_with fail
  refine (refPowerN_no _ _ _ 2 (bval s.data.toList) (P g) _ L L3 L4 (by omega) (by omega) (by omega) HP.out).mono ?_
  rintro e W3 ⟨rfl, hb⟩
  replace L3 := L3.next hb
  replace L := L.next hb
  replace L4 := L4.next hb
  replace B := B.trans (hb.mono B.size)
  clear hb
  go_wp2_with fail
  refine (refToN_nil _).mono ?_
  rintro e W4 ⟨rfl, hb⟩
  replace L3 := L3.next hb
  replace L := L.next hb
  replace L4 := L4.next hb
  replace B := B.trans (hb.mono B.size)
  clear hb
  go_wp2
  go_ret
  exact ⟨rfl, B⟩

set_option maxRecDepth 100000 in
set_option maxHeartbeats 800000 in
theorem refSblind_yes (g : Int) (s : ByteArray) (w : World) (hs : s.size ≤ 4000) (hP : P g ≠ 0) :
    Calls Tryz.prog 21 #[.int .i64 g, .string s] w (fun e W => e = .returned (.string (txt (pm 2 (bval s.data.toList) (P g)))) ∧ Below w.heap.size w W) := by
  have hl5 := bytes_len s hs
  have hl24 := P_len g
  have h2l := two_len
  have hlp := pm_len24 g 2 (bval s.data.toList) hP
  go_enter Tryz.func21, Tryz.ntmps21
  have B := Below.refl w.heap.size w
  go_wp2_with fail
  refine (refFrom_any s _ (by omega)).mono ?_
  rintro e W1 ⟨v3, rfl, L3, hb⟩
  have hb0 := hb
  replace B := (al1 B _).trans (hb.mono (al1 B _).size)
  clear hb
  have L := (lit_two w).next hb0
  obtain ⟨A3, c3, rfl, _⟩ := id L3
  go_wp2_with fail
  refine (refPrime_any g _).mono ?_
  rintro e W2 ⟨v4, rfl, L4, hb⟩
  replace L3 := L3.next hb
  replace L := L.next hb
  replace B := B.trans (hb.mono B.size)
  clear hb
  obtain ⟨A4, c4, rfl, _⟩ := id L4
  go_wp2_with fail
  refine (refPowerN _ _ _ 2 (bval s.data.toList) (P g) _ L L3 L4 (by omega) (by omega) (by omega) hP).mono ?_
  rintro e W3 ⟨v5, rfl, L5, hb⟩
  replace L3 := L3.next hb
  replace L := L.next hb
  replace L4 := L4.next hb
  replace B := B.trans (hb.mono B.size)
  clear hb
  obtain ⟨A5, c5, rfl, _⟩ := id L5
  go_wp2_with fail
  refine (refToN _ (pm 2 (bval s.data.toList) (P g)) _ L5 (by omega)).mono ?_
  rintro e W4 ⟨rfl, hb⟩
  replace L3 := L3.next hb
  replace L := L.next hb
  replace L4 := L4.next hb
  replace L5 := L5.next hb
  replace B := B.trans (hb.mono B.size)
  clear hb
  go_wp2
  go_ret
  exact ⟨rfl, B⟩

theorem refSblind_any (g : Int) (s : ByteArray) (w : World) (hs : s.size ≤ 4000) :
    Calls Tryz.prog 21 #[.int .i64 g, .string s] w (fun e W => e = .returned (.string (txt (powN g 2 (bval s.data.toList)))) ∧ Below w.heap.size w W) := by
  by_cases hP : P g = 0
  · rw [powN_no _ _ hP]
    exact refSblind_none g s w hs hP
  · rw [powN_yes _ _ hP]
    exact refSblind_yes g s w hs hP

set_option maxRecDepth 100000 in
set_option maxHeartbeats 800000 in
theorem refSagree_none (g : Int) (b s : ByteArray) (w : World) (hb0 : b.size ≤ 4000) (hs : s.size ≤ 4000) (hP : P g = 0) :
    Calls Tryz.prog 20 #[.int .i64 g, .string b, .string s] w (fun e W => e = .returned (.string (txt 0)) ∧ Below w.heap.size w W) := by
  have hl5 := bytes_len s hs
  have hl6 := bytes_len b hb0
  have hl24 := P_len g
  have htz : (txt 0).size ≤ 192 := by rw [txt_size]; decide
  have HP := Lib.hid hP
  clear hP
  go_enter Tryz.func20, Tryz.ntmps20
  have B := Below.refl w.heap.size w
  go_wp2_with fail
  refine (refFrom_any b _ (by omega)).mono ?_
  rintro e W1 ⟨v3, rfl, L3, hb⟩
  replace B := B.trans (hb.mono B.size)
  clear hb
  obtain ⟨A3, c3, rfl, _⟩ := id L3
  go_wp2_with fail
  refine (refFrom_any s _ (by omega)).mono ?_
  rintro e W2 ⟨v6, rfl, L6, hb⟩
  replace L3 := L3.next hb
  replace B := B.trans (hb.mono B.size)
  clear hb
  obtain ⟨A6, c6, rfl, _⟩ := id L6
  go_wp2_with fail
  refine (refPrime_any g _).mono ?_
  rintro e W3 ⟨v4, rfl, L4, hb⟩
  replace L3 := L3.next hb
  replace L6 := L6.next hb
  replace B := B.trans (hb.mono B.size)
  clear hb
  obtain ⟨A4, c4, rfl, _⟩ := id L4
  go_wp2_with fail
  refine (refPowerN_no _ _ _ (bval b.data.toList) (bval s.data.toList) (P g) _ L3 L6 L4 (by omega) (by omega) (by omega) HP.out).mono ?_
  rintro e W4 ⟨rfl, hb⟩
  replace L3 := L3.next hb
  replace L6 := L6.next hb
  replace L4 := L4.next hb
  replace B := B.trans (hb.mono B.size)
  clear hb
  go_wp2_with fail
  refine (refToN_nil _).mono ?_
  rintro e W5 ⟨rfl, hb⟩
  replace L3 := L3.next hb
  replace L6 := L6.next hb
  replace L4 := L4.next hb
  replace B := B.trans (hb.mono B.size)
  clear hb
  go_wp2_with fail
  refine (refSreduce_any g (txt 0) _ (by omega)).mono ?_
  rintro e W6 ⟨rfl, hb⟩
  rw [redN_no _ HP.out]
  replace L3 := L3.next hb
  replace L6 := L6.next hb
  replace L4 := L4.next hb
  replace B := B.trans (hb.mono B.size)
  clear hb
  go_wp2
  go_ret
  exact ⟨rfl, B⟩

set_option maxRecDepth 100000 in
set_option maxHeartbeats 800000 in
theorem refSagree_yes (g : Int) (b s : ByteArray) (w : World) (hb0 : b.size ≤ 4000) (hs : s.size ≤ 4000) (hP : P g ≠ 0) :
    Calls Tryz.prog 20 #[.int .i64 g, .string b, .string s] w (fun e W => e = .returned (.string (txt (redN g (pm (bval b.data.toList) (bval s.data.toList) (P g))))) ∧ Below w.heap.size w W) := by
  have hl5 := bytes_len s hs
  have hl6 := bytes_len b hb0
  have hl24 := P_len g
  have hlp := pm_len24 g (bval b.data.toList) (bval s.data.toList) hP
  have htz : (txt (pm (bval b.data.toList) (bval s.data.toList) (P g))).size ≤ 192 := by rw [txt_size, ← powN_yes _ _ hP]; exact nbyt_24 (powN_lt _ _ _)
  go_enter Tryz.func20, Tryz.ntmps20
  have B := Below.refl w.heap.size w
  go_wp2_with fail
  refine (refFrom_any b _ (by omega)).mono ?_
  rintro e W1 ⟨v3, rfl, L3, hb⟩
  replace B := B.trans (hb.mono B.size)
  clear hb
  obtain ⟨A3, c3, rfl, _⟩ := id L3
  go_wp2_with fail
  refine (refFrom_any s _ (by omega)).mono ?_
  rintro e W2 ⟨v6, rfl, L6, hb⟩
  replace L3 := L3.next hb
  replace B := B.trans (hb.mono B.size)
  clear hb
  obtain ⟨A6, c6, rfl, _⟩ := id L6
  go_wp2_with fail
  refine (refPrime_any g _).mono ?_
  rintro e W3 ⟨v4, rfl, L4, hb⟩
  replace L3 := L3.next hb
  replace L6 := L6.next hb
  replace B := B.trans (hb.mono B.size)
  clear hb
  obtain ⟨A4, c4, rfl, _⟩ := id L4
  go_wp2_with fail
  refine (refPowerN _ _ _ (bval b.data.toList) (bval s.data.toList) (P g) _ L3 L6 L4 (by omega) (by omega) (by omega) hP).mono ?_
  rintro e W4 ⟨v5, rfl, L5, hb⟩
  replace L3 := L3.next hb
  replace L6 := L6.next hb
  replace L4 := L4.next hb
  replace B := B.trans (hb.mono B.size)
  clear hb
  obtain ⟨A5, c5, rfl, _⟩ := id L5
  go_wp2_with fail
  refine (refToN _ (pm (bval b.data.toList) (bval s.data.toList) (P g)) _ L5 (by omega)).mono ?_
  rintro e W5 ⟨rfl, hb⟩
  replace L3 := L3.next hb
  replace L6 := L6.next hb
  replace L4 := L4.next hb
  replace L5 := L5.next hb
  replace B := B.trans (hb.mono B.size)
  clear hb
  go_wp2_with fail
  refine (refSreduce_any g (txt (pm (bval b.data.toList) (bval s.data.toList) (P g))) _ (by omega)).mono ?_
  rintro e W6 ⟨rfl, hb⟩
  rw [txt_val]
  replace L3 := L3.next hb
  replace L6 := L6.next hb
  replace L4 := L4.next hb
  replace L5 := L5.next hb
  replace B := B.trans (hb.mono B.size)
  clear hb
  go_wp2
  go_ret
  exact ⟨rfl, B⟩

theorem refSagree_any (g : Int) (b s : ByteArray) (w : World) (hb0 : b.size ≤ 4000) (hs : s.size ≤ 4000) :
    Calls Tryz.prog 20 #[.int .i64 g, .string b, .string s] w (fun e W => e = .returned (.string (txt (redN g (powN g (bval b.data.toList) (bval s.data.toList))))) ∧ Below w.heap.size w W) := by
  by_cases hP : P g = 0
  · rw [redN_no _ hP]
    exact refSagree_none g b s w hb0 hs hP
  · rw [powN_yes _ _ hP]
    exact refSagree_yes g b s w hb0 hs hP


end Go.Proofs.YtjnefacdindamaaGreatDoor
