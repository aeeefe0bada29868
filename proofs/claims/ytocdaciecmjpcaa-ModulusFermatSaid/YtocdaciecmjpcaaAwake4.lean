/- lodgelaw04.small tells whether lists have at most so many limbs; the document's examples of layer 4 hold (lodgelaw04.awake answers true), and memory below is left as it was. No condition but those named. -/
import Derived.Test.YtocdaciecmjpcaaRefM
namespace Go.Proofs.Ytocdaciecmjpcaa
open Go.RowKit Go.Shelf Num
set_option linter.unusedVariables false

set_option maxRecDepth 100000 in
set_option maxHeartbeats 4000000 in
theorem small_any (n k g : Nat) (A : Nat → Option Addr) (ln cp : Nat → Nat) (w : World) (hk : k ≤ 9) (hn : n ≤ 9) (hc : ∀ j, j < k → w.cell? ⟨g, j, none⟩ = some (.slice (A j) (ln j) (cp j))) (b : Bool) (hb : (∀ j, j < k → ln j ≤ n) ↔ b = true) :
    Calls Try.prog 8 #[.int .i64 (n : Int), .slice (some ⟨g, 0, none⟩) k k] w fun e w' => e = .returned (.bool b) ∧ w = w' := by
  have HC := Lib.hid hc
  have HB := Lib.hid hb
  clear hc hb
  go_enter Try.func8, Try.ntmps8
  go_wp2
  go_loop [5] (fun i => ∃ c : Nat, c ≤ k ∧ i = .int .i64 (c : Int) ∧ ∀ j, j < c → ln j ≤ n) (fun i => k - (intOf i).toNat)
  case atStart => exact ⟨0, Nat.zero_le _, rfl, fun j hj => absurd hj (Nat.not_lt_zero j)⟩
  case round =>
    obtain ⟨c, hck, rfl, hall⟩ := hrel
    have HA := Lib.hid hall
    clear hall
    by_cases hlt : c < k
    · have hd : decide ((c : Int) < (k : Int)) = true := by simpa using hlt
      have hcell := HC.out c hlt
      have hltI : (c : Int) < (k : Int) := by omega
      by_cases hle : ln c ≤ n
      · have hq : decide ((n : Int) < (ln c : Int)) = false := decide_eq_false (by omega)
        go_wp2_with fail
        go_round
        case rel =>
          refine ⟨c + 1, by omega, by go_num, fun j hj => ?_⟩
          rcases Nat.lt_or_ge j c with h | h
          · exact HA.out j h
          · obtain rfl : j = c := by omega
            exact hle
        case measure => simp [intOf]; omega
      · have hq : decide ((n : Int) < (ln c : Int)) = true := decide_eq_true (by omega)
        go_wp2
        go_ret
        exact ⟨congrArg (fun b => Ending.returned (.bool b)) (Bool.eq_false_iff.2 (fun h => hle (HB.out.2 h c hlt))).symm, rfl⟩
    · obtain rfl : c = k := by omega
      have hd : decide ((c : Int) < (c : Int)) = false := by simp
      go_wp2
      go_ret
      exact ⟨congrArg (fun b => Ending.returned (.bool b)) (HB.out.1 HA.out).symm, rfl⟩

theorem lim_lit1'' (w : World) (o p : Obj) (x : Nat) (hx : x < M) : Lim (((w.alloc o).alloc p).alloc (.cells #[.int .u64 (x : Int)] 31)).heap.size (((w.alloc o).alloc p).alloc (.cells #[.int .u64 (x : Int)] 31)) (.slice (some ⟨w.heap.size + 1 + 1, 0, none⟩) 1 1) [x] := by
  have h := lim_lit1 ((w.alloc o).alloc p) x hx
  simpa only [World.size_alloc] using h
theorem lim_lit2'' (w : World) (o p : Obj) (x y : Nat) (hx : x < M) (hy : y < M) : Lim (((w.alloc o).alloc p).alloc (.cells #[.int .u64 (x : Int), .int .u64 (y : Int)] 31)).heap.size (((w.alloc o).alloc p).alloc (.cells #[.int .u64 (x : Int), .int .u64 (y : Int)] 31)) (.slice (some ⟨w.heap.size + 1 + 1, 0, none⟩) 2 2) [x, y] := by
  have h := lim_lit2 ((w.alloc o).alloc p) x y hx hy
  simpa only [World.size_alloc] using h
theorem under {n : Nat} (h : n ≤ 99) : n < M := by unfold M; omega

theorem eg_one : limbs (pm (val [2]) (val [11]) (val [23])) = [1] := limbs_of _ _ (by rw [pm_is]; decide +kernel) (by decide +kernel) (by decide +kernel)
theorem eg_exp : val [0, 1] = nb (true :: List.replicate 64 false) := by decide +kernel
theorem eg_two4 : pm (val [3]) (val [0, 1]) (val [0, 1]) = 1 := (congrArg (fun e => pm (val [3]) e (val [0, 1])) eg_exp).trans ((pe_is _ _ _).trans (by decide +kernel))
theorem eg_two : limbs (pm (val [3]) (val [0, 1]) (val [0, 1])) = [1] := by rw [eg_two4]; exact limbs_one
theorem eg_three : limbs (val [5] * val [6] % val [7]) = [2] := limbs_of _ _ (by decide +kernel) (by decide +kernel) (by decide +kernel)
theorem eg_four : limbs (val [0, 1] % val [10]) = [6] := limbs_of _ _ (by decide +kernel) (by decide +kernel) (by decide +kernel)
theorem eg_n23 : val [23] ≠ 0 := by decide +kernel
theorem eg_n01 : val [0, 1] ≠ 0 := by decide +kernel
theorem eg_n7 : val [7] ≠ 0 := by decide +kernel
theorem eg_n10 : val [10] ≠ 0 := by decide +kernel
theorem eg_nil : val [] = 0 := rfl

theorem al1 {w W : World} (h : Below w.heap.size w W) (o : Obj) : Below w.heap.size w (W.alloc o) := h.alloc h.size o

set_option maxRecDepth 100000 in
set_option maxHeartbeats 8000000 in
theorem awake4_any (w : World) : Calls Try.prog 9 #[] w fun e W' => e = .returned (.bool true) ∧ Below w.heap.size w W' := by
  go_enter Try.func9, Try.ntmps9
  go_wp2_with fail
  refine (power_any _ _ _ [2] [11] [23] _ (((lim_lit1 w 2 (under (by omega))).alloc _).alloc _) ((lim_lit1' w _ 11 (under (by omega))).alloc _) (lim_lit1'' w _ _ 23 (under (by omega))) (by simp) (by simp) (by simp) eg_n23).mono ?_
  rintro e W1 ⟨va, rfl, La, hb⟩
  rw [eg_one] at La
  have B1 := (al1 (al1 (al1 (Below.refl w.heap.size w) _) _) _).trans (hb.mono (al1 (al1 (al1 (Below.refl w.heap.size w) _) _) _).size)
  clear hb
  go_wp2_with fail
  refine (power_zero _ _ _ [2] [11] [] _ ((lim_lit1 W1 2 (under (by omega))).alloc _) (lim_lit1' W1 _ 11 (under (by omega))) (Lim.nil _ _) (by simp) (by simp) (by simp) eg_nil).mono ?_
  rintro e W2 ⟨rfl, hb⟩
  replace La := ((La.alloc _).alloc _).next hb
  have B2 := (al1 (al1 B1 _) _).trans (hb.mono (al1 (al1 B1 _) _).size)
  clear hb B1
  go_wp2_with fail
  refine (power_any _ _ _ [3] [0, 1] [0, 1] _ (((lim_lit1 W2 3 (under (by omega))).alloc _).alloc _) ((lim_lit2' W2 _ 0 1 (under (by omega)) (under (by omega))).alloc _) (lim_lit2'' W2 _ _ 0 1 (under (by omega)) (under (by omega))) (by simp) (by simp) (by simp) eg_n01).mono ?_
  rintro e W3 ⟨vb, rfl, Lb, hb⟩
  rw [eg_two] at Lb
  replace La := (((La.alloc _).alloc _).alloc _).next hb
  have B3 := (al1 (al1 (al1 B2 _) _) _).trans (hb.mono (al1 (al1 (al1 B2 _) _) _).size)
  clear hb B2
  go_wp2_with fail
  refine (mtimes_any _ _ _ [5] [6] [7] _ (((lim_lit1 W3 5 (under (by omega))).alloc _).alloc _) ((lim_lit1' W3 _ 6 (under (by omega))).alloc _) (lim_lit1'' W3 _ _ 7 (under (by omega))) (by simp) (by simp) (by simp) eg_n7).mono ?_
  rintro e W4 ⟨vc, rfl, Lc, hb⟩
  rw [eg_three] at Lc
  replace La := (((La.alloc _).alloc _).alloc _).next hb
  replace Lb := (((Lb.alloc _).alloc _).alloc _).next hb
  have B4 := (al1 (al1 (al1 B3 _) _) _).trans (hb.mono (al1 (al1 (al1 B3 _) _) _).size)
  clear hb B3
  go_wp2_with fail
  refine (rest_any _ _ [0, 1] [10] _ ((lim_lit2 W4 0 1 (under (by omega)) (under (by omega))).alloc _) (lim_lit1' W4 _ 10 (under (by omega))) (by simp) (by simp) eg_n10).mono ?_
  rintro e W5 ⟨vr, rfl, Lr, hb⟩
  rw [eg_four] at Lr
  replace La := ((La.alloc _).alloc _).next hb
  replace Lb := ((Lb.alloc _).alloc _).next hb
  replace Lc := ((Lc.alloc _).alloc _).next hb
  have B5 := (al1 (al1 B4 _) _).trans (hb.mono (al1 (al1 B4 _) _).size)
  clear hb B4
  obtain ⟨b1, o1, c1, rfl, _, _, h1⟩ := La.at_ (by simp)
  obtain ⟨b2, o2, c2, rfl, _, _, h2⟩ := Lb.at_ (by simp)
  obtain ⟨b3, o3, c3, rfl, _, _, h3⟩ := Lc.at_ (by simp)
  obtain ⟨b4, o4, c4, rfl, _, _, h4⟩ := Lr.at_ (by simp)
  have g1 : W5.cell? ⟨b1, o1, none⟩ = some (.int .u64 1) := h1 0 (by simp)
  have g2 : W5.cell? ⟨b2, o2, none⟩ = some (.int .u64 1) := h2 0 (by simp)
  have g3 : W5.cell? ⟨b3, o3, none⟩ = some (.int .u64 2) := h3 0 (by simp)
  have g4 : W5.cell? ⟨b4, o4, none⟩ = some (.int .u64 6) := h4 0 (by simp)
  clear h1 h2 h3 h4 La Lb Lc Lr
  go_wp2
  go_ret
  exact ⟨rfl, B5⟩

end Go.Proofs.Ytocdaciecmjpcaa
