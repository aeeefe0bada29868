import Derived.Test.YtkmlnglmecjmeaaSrtP
import Derived.Test.YtkmlnglmecjmeaaLenW
import Derived.Test.YtkmlnglmecjmeaaPhaseA
/- slices.SortFunc of at most 12 members of one's own by layer 15's comparison; slices.Compact of members that are each there once. Conditions: as said. -/
namespace Go.Proofs.Ytkmlnglmecjmeaa
open Go Go.RowKit
set_option linter.unusedVariables false

set_option maxRecDepth 100000 in
set_option maxHeartbeats 8000000 in
theorem pdqP_any (A : Option Addr) (g n cap n₀ : Nat) (lim : Int) (ms : List (Int × Int)) (w0 w : World) (hA : 0 < n → A = some ⟨g, 0, none⟩) (hbx : Box w g (ms.flatMap mC)) (hg : n₀ ≤ g) (hn : ms.length = n) (hn8 : n ≤ 12) (hd : ms.Nodup) (B : Below n₀ w0 w) (hs0 : n₀ ≤ w0.heap.size) :
    Calls Try.prog 38 #[.slice A n cap, .int .i64 0, .int .i64 (n : Int), .int .i64 lim, .func (.func 25) #[] #[]] w fun e W' => (∃ v, e = .returned v) ∧ Box W' g ((sortM ms).flatMap mC) ∧ Below n₀ w0 W' := by
  have H := Lib.hid (insP_any A g n cap n₀ ms w0 w hA hbx hg hn (by omega) hd B hs0)
  have hw1 : IntKind.i64.wrap ((n : Int) - 0) = (n : Int) := by rw [IntKind.wrap_i64]; omega
  have hw2 : (n : Int) - 0 = (n : Int) := by omega
  have hd1 : decide ((n : Int) ≤ 12) = true := decide_eq_true (by omega)
  have hd2 : decide (n ≤ 12) = true := decide_eq_true (by omega)
  have hn12 : (n : Int) ≤ 12 := by omega
  clear hA hbx hg hn hd B hs0
  go_enter Try.func38, Try.ntmps38
  go_wp2_with fail
  go_loopw [1, 2, 3, 10, 11, 12] (fun a b c d e f wr => a = .int .i64 0 ∧ b = .int .i64 (n : Int) ∧ c = .int .i64 lim ∧ d = .bool true ∧ e = .bool true ∧ wr = w) (fun _ _ _ _ _ _ _ => 0)
  case atStart => exact ⟨rfl, rfl, rfl, rfl, rfl, rfl⟩
  case round =>
    obtain ⟨rfl, rfl, rfl, rfl, rfl, rfl⟩ := hrel
    go_wp2_with fail
    refine H.out.mono ?_
    rintro e W1 ⟨⟨v, rfl⟩, h1, h2⟩
    have HR := Lib.hid (And.intro h1 h2)
    clear h1 h2 H
    go_wp2
    first | (go_ret; exact ⟨⟨_, rfl⟩, HR.out⟩) | (refine bodyPost_ret (v := .tuple #[]) (by simp [results, Try.results38, go_sem]) rfl ?_; exact ⟨⟨_, rfl⟩, HR.out⟩)

set_option maxHeartbeats 2000000 in
theorem blen_any (n : Nat) (w : World) (hn : n ≤ 1000) : Calls Try.prog 39 #[.int .u64 (n : Int)] w fun e W' => e = .returned (.int .i64 ((Num.nbits n : Nat) : Int)) ∧ w = W' := by
  have H := Lib.hid (len64_int (n : Int) w (by omega) (by omega))
  go_enter Try.func39, Try.ntmps39
  go_wp2_with fail
  refine H.out.mono ?_
  rintro e W1 ⟨rfl, rfl⟩
  go_wp2
  go_ret
  exact ⟨by simp, rfl⟩

set_option maxHeartbeats 4000000 in
theorem sortP_any (v : Value) (ms : List (Int × Int)) (base : Nat) (w : World) (ho : w.ownsRow base 27 2 v ms.length (ms.flatMap mC)) (hd : ms.Nodup) (hn : ms.length ≤ 12) (hb : base ≤ w.heap.size) :
    Calls Try.prog 24 #[v, .func (.func 25) #[] #[]] w fun e W' => (∃ u, e = .returned u) ∧ Mems W'.heap.size W' (sortM ms) [v] ∧ Below base w W' := by
  obtain ⟨A, g, cap, hve, hN, hA, hbx, hg, hc, hm⟩ : ∃ A g cap, v = .slice A ms.length cap ∧ (A = none → cap = 0) ∧ (0 < ms.length → A = some ⟨g, 0, none⟩) ∧ Box w g (ms.flatMap mC) ∧ base ≤ g ∧ ms.length ≤ cap ∧ cap ≤ maxLen := by
    rcases ho.2 with ⟨h1, h2⟩ | ⟨g, cap, cur, h1, h2, h3, h4, h5, h6, h7⟩
    · have : ms = [] := List.eq_nil_of_length_eq_zero h2
      subst this
      exact ⟨none, base, 0, h1, (fun _ => rfl), (fun h => absurd h (by simp)), ⟨fun i v h => by simp at h, fun i h => by simp at h⟩, Nat.le_refl _, Nat.le_refl _, Nat.zero_le _⟩
    · refine ⟨some ⟨g, 0, none⟩, g, cap, h1, (fun h => by cases h), fun _ => rfl, ⟨fun i u hi => ?_, fun i hi => ?_⟩, h2, h4, h5⟩
      · rw [← h7, List.getElem?_take] at hi
        split at hi
        · simpa [World.cell?, h3] using hi
        · cases hi
      · simp [World.frozen?, h3]
  subst hve
  have hl := (sortM_perm hd).length_eq
  have H := Lib.hid (fun lim => pdqP_any A g ms.length cap base lim ms w w hA hbx hg rfl hn hd (Below.refl _ _) hb)
  have HL := Lib.hid (blen_any ms.length w (by omega))
  have HX : Hid (∀ W', Box W' g ((sortM ms).flatMap mC) → Mems W'.heap.size W' (sortM ms) [.slice A ms.length cap]) := Lib.hid fun W' h => by
    rcases Nat.eq_zero_or_pos ms.length with h0 | hp
    · have e1 : sortM ms = [] := List.eq_nil_of_length_eq_zero (hl.trans h0)
      rw [e1, h0]
      exact ⟨A, cap, rfl, Nat.zero_le _, hm, hN, fun h => absurd h (by simp)⟩
    · rw [hA hp, ← hl]
      refine ⟨some ⟨g, 0, none⟩, cap, rfl, by omega, hm, (fun h => by cases h), fun hp2 => ⟨g, 0, rfl, World.block_lt_of_cell? W' ⟨g, 0, none⟩ (h.c 0 _ (mc_at (List.getElem?_eq_getElem hp2)).1), fun i hi => ⟨mC (sortM ms)[i], rfl, fun j hj => ?_, rfl⟩⟩⟩
      have h2 := mc_at (List.getElem?_eq_getElem hi)
      have hj2 : j = 0 ∨ j = 1 := by omega
      rcases hj2 with rfl | rfl
      · simpa using h.c (i * 2) _ h2.1
      · simpa using h.c (i * 2 + 1) _ h2.2
  have hw1 : IntKind.u64.wrap (ms.length : Int) = (ms.length : Int) := by rw [IntKind.wrap_u64]; omega
  obtain ⟨N, hNN⟩ : ∃ N, ms.length = N := ⟨_, rfl⟩
  rw [hNN] at H HL HX hw1
  rw [hNN]
  have hwm : (N : Int) % 18446744073709551616 = (N : Int) := by omega
  clear hA hbx hg hd hb hl hN hc hm ho hNN hn
  go_enter Try.func24, Try.ntmps24
  go_wp2_with fail
  refine HL.out.mono ?_
  rintro e W1 ⟨rfl, rfl⟩
  go_wp2_with fail
  refine (H.out _).mono ?_
  rintro e W2 ⟨⟨u, rfl⟩, h1, h2⟩
  have HR := Lib.hid (And.intro (HX.out _ h1) h2)
  clear h1 h2 H HX HL
  go_wp2
  go_end0
  exact ⟨⟨_, rfl⟩, HR.out⟩

end Go.Proofs.Ytkmlnglmecjmeaa
