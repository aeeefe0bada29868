/- What the walks of lodgelaw04's statements share: lodgelaw04.small over three lists or one; bounds. Conditions: as each theorem names them. -/
import Derived.Test.YtocdaciecmjpcaaAwake4
import Derived.Test.YtocdaciecmjpcaaLaw
namespace Go.Proofs.Ytocdaciecmjpcaa
open Go.RowKit Go.Shelf Num
set_option linter.unusedVariables false

def pick3 {α : Type} (a b c : α) : Nat → α
  | 0 => a
  | 1 => b
  | _ => c
theorem pick3_all {n a b c : Nat} : (∀ j, j < 3 → pick3 a b c j ≤ n) ↔ (a ≤ n ∧ b ≤ n ∧ c ≤ n) := by
  constructor
  · exact fun h => ⟨h 0 (by omega), h 1 (by omega), h 2 (by omega)⟩
  · rintro ⟨h0, h1, h2⟩ j hj
    have : j = 0 ∨ j = 1 ∨ j = 2 := by omega
    rcases this with rfl | rfl | rfl
    · exact h0
    · exact h1
    · exact h2
theorem three_cells (w : World) (a0 a1 a2 : Option Addr) (n0 n1 n2 c0 c1 c2 : Nat) : ∀ j, j < 3 → (w.alloc (.cells #[.slice a0 n0 c0, .slice a1 n1 c1, .slice a2 n2 c2] 22)).cell? ⟨w.heap.size, j, none⟩ = some (.slice (pick3 a0 a1 a2 j) (pick3 n0 n1 n2 j) (pick3 c0 c1 c2 j)) := by
  intro j hj
  have : j = 0 ∨ j = 1 ∨ j = 2 := by omega
  rcases this with rfl | rfl | rfl <;> simp [pick3]

theorem small3_is (n : Nat) (a0 : Option Addr) (n0 c0 : Nat) (a1 : Option Addr) (n1 c1 : Nat) (a2 : Option Addr) (n2 c2 : Nat) (w : World) (hn : n ≤ 9) (b : Bool) (hb : decide (n0 ≤ n ∧ n1 ≤ n ∧ n2 ≤ n) = b) :
    Calls Try.prog 8 #[.int .i64 (n : Int), .slice (some ⟨w.heap.size, 0, none⟩) 3 3] (w.alloc (.cells #[.slice a0 n0 c0, .slice a1 n1 c1, .slice a2 n2 c2] 22))
      fun e w' => e = .returned (.bool b) ∧ Below (w.alloc (.cells #[.slice a0 n0 c0, .slice a1 n1 c1, .slice a2 n2 c2] 22)).heap.size (w.alloc (.cells #[.slice a0 n0 c0, .slice a1 n1 c1, .slice a2 n2 c2] 22)) w' := by
  have K := small_any n 3 w.heap.size (pick3 a0 a1 a2) (pick3 n0 n1 n2) (pick3 c0 c1 c2) _ (by omega) hn (three_cells w a0 a1 a2 n0 n1 n2 c0 c1 c2) b (by rw [← hb, decide_eq_true_iff]; exact pick3_all)
  refine K.mono ?_
  rintro e W ⟨rfl, rfl⟩
  exact ⟨rfl, Below.refl _ _⟩
theorem small3_no (n : Nat) (a0 : Option Addr) (n0 c0 : Nat) (a1 : Option Addr) (n1 c1 : Nat) (a2 : Option Addr) (n2 c2 : Nat) (w : World) (hn : n ≤ 9) (h : ¬ (n0 ≤ n ∧ n1 ≤ n ∧ n2 ≤ n)) :
    Calls Try.prog 8 #[.int .i64 (n : Int), .slice (some ⟨w.heap.size, 0, none⟩) 3 3] (w.alloc (.cells #[.slice a0 n0 c0, .slice a1 n1 c1, .slice a2 n2 c2] 22))
      fun e w' => e = .returned (.bool false) ∧ Below (w.alloc (.cells #[.slice a0 n0 c0, .slice a1 n1 c1, .slice a2 n2 c2] 22)).heap.size (w.alloc (.cells #[.slice a0 n0 c0, .slice a1 n1 c1, .slice a2 n2 c2] 22)) w' :=
  small3_is n a0 n0 c0 a1 n1 c1 a2 n2 c2 w hn false (decide_eq_false h)
theorem small3_yes (n : Nat) (a0 : Option Addr) (n0 c0 : Nat) (a1 : Option Addr) (n1 c1 : Nat) (a2 : Option Addr) (n2 c2 : Nat) (w : World) (hn : n ≤ 9) (h0 : n0 ≤ n) (h1 : n1 ≤ n) (h2 : n2 ≤ n) :
    Calls Try.prog 8 #[.int .i64 (n : Int), .slice (some ⟨w.heap.size, 0, none⟩) 3 3] (w.alloc (.cells #[.slice a0 n0 c0, .slice a1 n1 c1, .slice a2 n2 c2] 22))
      fun e w' => e = .returned (.bool true) ∧ Below (w.alloc (.cells #[.slice a0 n0 c0, .slice a1 n1 c1, .slice a2 n2 c2] 22)).heap.size (w.alloc (.cells #[.slice a0 n0 c0, .slice a1 n1 c1, .slice a2 n2 c2] 22)) w' :=
  small3_is n a0 n0 c0 a1 n1 c1 a2 n2 c2 w hn true (decide_eq_true ⟨h0, h1, h2⟩)

theorem one_cell (w : World) (a0 : Option Addr) (n0 c0 : Nat) : ∀ j, j < 1 → (w.alloc (.cells #[.slice a0 n0 c0] 22)).cell? ⟨w.heap.size, j, none⟩ = some (.slice a0 n0 c0) := by
  intro j hj
  have h : j = 0 := by omega
  subst h
  simp
theorem small1_is (n : Nat) (a0 : Option Addr) (n0 c0 : Nat) (w : World) (hn : n ≤ 9) (b : Bool) (hb : decide (n0 ≤ n) = b) :
    Calls Try.prog 8 #[.int .i64 (n : Int), .slice (some ⟨w.heap.size, 0, none⟩) 1 1] (w.alloc (.cells #[.slice a0 n0 c0] 22))
      fun e w' => e = .returned (.bool b) ∧ Below (w.alloc (.cells #[.slice a0 n0 c0] 22)).heap.size (w.alloc (.cells #[.slice a0 n0 c0] 22)) w' := by
  have K := small_any n 1 w.heap.size (fun _ => a0) (fun _ => n0) (fun _ => c0) (w.alloc (.cells #[.slice a0 n0 c0] 22)) (by omega) hn (one_cell w a0 n0 c0) b (by rw [← hb, decide_eq_true_iff]; exact ⟨fun h => h 0 (by omega), fun h _ _ => h⟩)
  refine K.mono ?_
  rintro e W ⟨rfl, rfl⟩
  exact ⟨rfl, Below.refl _ _⟩

theorem bits_not {n : Nat} (h : n ≠ 0) : (((nbits n : Nat) : Int) == 0) = false := by
  have := (nbits_ge h).1
  simp
  omega
theorem bits_is {n : Nat} (h : n = 0) : (((nbits n : Nat) : Int) == 0) = true := by rw [h]; rfl
theorem pm_len {zs : List Nat} {k : Nat} (ho : Ok zs) (h0 : val zs ≠ 0) (hk : zs.length ≤ k) : ∀ a e, (limbs (pm a e (val zs))).length ≤ k :=
  fun a e => Nat.le_trans (limbs_len (Nat.lt_trans (pm_lt _ _ (by omega)) (val_lt ho))) hk
theorem val_ok {v : Value} {w : World} {n : Nat} {xs : List Nat} (h : Lim n w v xs) : Ok xs := h.ok
theorem val_1 : val [1] = 1 := rfl

theorem less_any (v u : Value) (xs ys : List Nat) (w : World) (hLa : Lim w.heap.size w v xs) (hLb : Lim w.heap.size w u ys) (hlx : xs.length ≤ 1099511627776) (hly : ys.length ≤ 1099511627776) (h : val xs < val ys) :
    Calls Try.prog 19 #[v, u] w fun e W' => e = .returned (.int .i64 (-1)) ∧ Below w.heap.size w W' := by
  have K := refCompare_any v u xs ys w hLa hLb hlx hly
  rw [cmpN_lt h] at K
  refine K.mono ?_
  rintro e W ⟨rfl, rfl⟩
  exact ⟨rfl, Below.refl _ _⟩

end Go.Proofs.Ytocdaciecmjpcaa
