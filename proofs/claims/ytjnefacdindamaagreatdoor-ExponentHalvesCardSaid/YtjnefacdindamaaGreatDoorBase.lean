import Derived.RangeFuncNested
import Derived.RangeFuncBound
import Derived.RangeFuncCalls
import Derived.RangeFuncLeaves
import Derived.RangeFuncBox
import Derived.Shelf.Abstract
import Derived.Shelf.RegionOpen
import Derived.WalkKit
import Derived.OwnWalkIn
import Derived.TacticsInMore
import Derived.LoopNIn
import Derived.LoopIn
import Derived.Maps.AppendAt
import Derived.Deep.QuietTactic
import Derived.BigQuiet
import Derived.Deep.RegionWith
import Derived.Lib.Hide
import Derived.Laws.Externs
import Derived.Shelf.Spec.BitsCarry
import Derived.OpenShut
import Derived.Test.YtjnefacdindamaaGreatDoorProg
import Derived.Test.YtjnefacdindamaaGreatDoorNumA
/- What the walks of package nat are told of a list of limbs that lies in memory; lemmas on it, and the laws of the two calls that the model stands in for. Conditions: as each theorem names them. -/
namespace Go.Proofs.YtjnefacdindamaaGreatDoor
open Go.RowKit Go.Shelf Num

/-- The slice value v reads, in blocks below n₀, as the limbs xs, each below 2^64. -/
def Lim (n₀ : Nat) (w : World) (v : Value) (xs : List Nat) : Prop :=
  ∃ A cap, v = .slice A xs.length cap ∧ xs.length ≤ cap ∧ (A = none → cap = 0) ∧ Ok xs ∧
    (0 < xs.length → ∃ b off, A = some ⟨b, off, none⟩ ∧ b < n₀ ∧ ∀ j, j < xs.length → w.cell? ⟨b, off + j, none⟩ = some (.int .u64 ((lat xs j : Nat) : Int)))

theorem Lim.ok {n₀ : Nat} {w : World} {v : Value} {xs : List Nat} (h : Lim n₀ w v xs) : Ok xs := by
  obtain ⟨A, cap, _, _, _, h, _⟩ := h; exact h
theorem Lim.keep {n₀ : Nat} {w w' : World} {v : Value} {xs : List Nat} (h : Lim n₀ w v xs) (hk : ∀ p : Addr, p.block < n₀ → w'.cell? p = w.cell? p) : Lim n₀ w' v xs := by
  obtain ⟨A, cap, hv, hc, hn, ho, hr⟩ := h
  refine ⟨A, cap, hv, hc, hn, ho, fun hp => ?_⟩
  obtain ⟨b, off, hA, hb, hcell⟩ := hr hp
  exact ⟨b, off, hA, hb, fun j hj => (hk ⟨b, off + j, none⟩ hb).trans (hcell j hj)⟩
theorem Lim.below {n₀ : Nat} {w w' : World} {v : Value} {xs : List Nat} (h : Lim n₀ w v xs) (hb : Below n₀ w w') : Lim n₀ w' v xs := h.keep fun _ hp => hb.cell hp
theorem Lim.mono {n₀ n₁ : Nat} {w : World} {v : Value} {xs : List Nat} (h : Lim n₀ w v xs) (hn : n₀ ≤ n₁) : Lim n₁ w v xs := by
  obtain ⟨A, cap, hv, hc, hz, ho, hr⟩ := h
  refine ⟨A, cap, hv, hc, hz, ho, fun hp => ?_⟩
  obtain ⟨b, off, hA, hb, hcell⟩ := hr hp
  exact ⟨b, off, hA, by omega, hcell⟩
theorem Lim.drew {n₀ : Nat} {w : World} {v : Value} {xs : List Nat} (h : Lim n₀ w v xs) : Lim n₀ w.drew v xs := h
theorem Lim.drewN {n₀ : Nat} {w : World} {v : Value} {xs : List Nat} (h : Lim n₀ w v xs) (k : Nat) : Lim n₀ (w.drewN k) v xs := h
theorem Lim.nil (n₀ : Nat) (w : World) : Lim n₀ w (.slice none 0 0) [] := ⟨none, 0, rfl, Nat.le_refl _, fun _ => rfl, ok_nil, fun h => absurd h (by simp)⟩

/-- Of a list that is not empty: where it lies. -/
theorem Lim.at_ {n₀ : Nat} {w : World} {v : Value} {xs : List Nat} (h : Lim n₀ w v xs) (hp : 0 < xs.length) :
    ∃ b off cap, v = .slice (some ⟨b, off, none⟩) xs.length cap ∧ xs.length ≤ cap ∧ b < n₀ ∧ ∀ j, j < xs.length → w.cell? ⟨b, off + j, none⟩ = some (.int .u64 ((lat xs j : Nat) : Int)) := by
  obtain ⟨A, cap, hv, hc, _, _, hr⟩ := h
  obtain ⟨b, off, rfl, hb, hcell⟩ := hr hp
  exact ⟨b, off, cap, hv, hc, hb, hcell⟩

/-- The first k limbs of it. -/
theorem Lim.take {n₀ : Nat} {w : World} {A : Option Addr} {cap n : Nat} {xs : List Nat} (h : Lim n₀ w (.slice A n cap) xs) (k : Nat) (hk : k ≤ xs.length) : Lim n₀ w (.slice A k cap) (xs.take k) := by
  obtain ⟨A', cap', hv, hc, hz, ho, hr⟩ := h
  injection hv with h1 h2 h3
  subst h1 h3
  have hl : (xs.take k).length = k := by simp; omega
  refine ⟨A, cap, by rw [hl], by omega, hz, ok_take ho k, fun hp => ?_⟩
  obtain ⟨b, off, hA, hb, hcell⟩ := hr (by omega)
  refine ⟨b, off, hA, hb, fun j hj => ?_⟩
  rw [hcell j (by omega)]
  have : j < k := by omega
  simp [lat, this]

theorem Lim.len {n₀ : Nat} {w : World} {A : Option Addr} {cap n : Nat} {xs : List Nat} (h : Lim n₀ w (.slice A n cap) xs) : n = xs.length := by
  obtain ⟨A', cap', hv, _⟩ := h
  injection hv

/-- Limbs as cells. -/
def Us (xs : List Nat) : List Value := xs.map fun x : Nat => Value.int .u64 (x : Int)
theorem Us_length (xs : List Nat) : (Us xs).length = xs.length := by simp [Us]
theorem Us_append (xs ys : List Nat) : Us (xs ++ ys) = Us xs ++ Us ys := by simp [Us]
theorem Us_one (x : Nat) : Us [x] = [.int .u64 (x : Int)] := rfl
theorem Us_nil : Us [] = [] := rfl
theorem Us_cell (xs : List Nat) : ∀ u ∈ Us xs, u.oneCell' = true := by
  intro u hu
  obtain ⟨x, _, rfl⟩ := List.mem_map.1 hu
  rfl

/-- What a row of the call's own reads as. -/
theorem Lim.of_own {w : World} {base n n₀ : Nat} {e : TypeId} {v : Value} {xs : List Nat} (h : w.ownsRow base e 1 v n (Us xs)) (ho : Ok xs) (hn : w.heap.size ≤ n₀) : Lim n₀ w v xs := by
  have hl : xs.length = n := by simpa [Us_length] using h.1
  subst hl
  rcases h.2 with ⟨rfl, h0⟩ | ⟨g, cap, cur, rfl, hb, hg, hnc, _, hcs, ht⟩
  · have : xs = [] := List.eq_nil_of_length_eq_zero h0
    subst this
    exact Lim.nil _ _
  · refine ⟨some ⟨g, 0, none⟩, cap, rfl, hnc, fun h => (by cases h), ho, fun hp => ⟨g, 0, rfl, ?_, fun j hj => ?_⟩⟩
    · have := (Array.getElem?_eq_some_iff.1 hg).1; omega
    · have := h.cells (g := g) rfl j (.int .u64 ((lat xs j : Nat) : Int)) (by simp [Us, lat, hj])
      rcases Nat.eq_zero_or_pos j with rfl | h0
      · simpa [Addr.add] using this
      · simpa [Addr.add, show j ≠ 0 from by omega] using this

theorem run_add64N {P : Program} (x y c : Nat) (hc : c ≤ 1) (w : World) :
    (add64Entry #[.int .u64 (x : Int), .int .u64 (y : Int), .int .u64 (c : Int)]).run P w = .ok (.tuple #[.int .u64 ((addLo x y c : Nat) : Int), .int .u64 ((addHi x y c : Nat) : Int)]) w := by
  rw [run_add64 x y c (by omega) (by omega) (by omega) (by omega)]
  unfold addLo addHi M
  congr 4 <;> omega

theorem add64 (x y c : Nat) (hc : c ≤ 1) (w : World) :
    (callFunc 85 #[.int .u64 (x : Int), .int .u64 (y : Int), .int .u64 (c : Int)]).run Tryz.prog w = .ok (.value (.tuple #[.int .u64 ((addLo x y c : Nat) : Int), .int .u64 ((addHi x y c : Nat) : Int)])) w := by
  rw [run_callFunc_extern Tryz.func85 (by kernel_rfl) (by kernel_rfl) (by kernel_rfl) (e := add64Entry) (by kernel_rfl), run_add64N x y c hc]
  rfl

theorem run_sub64N {P : Program} (x y b : Nat) (hb : b ≤ 1) (w : World) :
    (sub64Entry #[.int .u64 (x : Int), .int .u64 (y : Int), .int .u64 (b : Int)]).run P w = .ok (.tuple #[.int .u64 ((subLo x y b : Nat) : Int), .int .u64 ((subHi x y b : Nat) : Int)]) w :=
  run_sub64 x y b hb w

theorem sub64 (x y b : Nat) (hb : b ≤ 1) (w : World) :
    (callFunc 84 #[.int .u64 (x : Int), .int .u64 (y : Int), .int .u64 (b : Int)]).run Tryz.prog w = .ok (.value (.tuple #[.int .u64 ((subLo x y b : Nat) : Int), .int .u64 ((subHi x y b : Nat) : Int)])) w := by
  rw [run_callFunc_extern Tryz.func84 (by kernel_rfl) (by kernel_rfl) (by kernel_rfl) (e := sub64Entry) (by kernel_rfl), run_sub64N x y b hb]
  rfl

/-- What a round must leave: all below n₁, and the two boxes that the iterator reads. -/
def KeepB (n₁ Ba Bb : Nat) (W W' : World) : Prop := Below n₁ W W' ∧ W'.cell? ⟨Ba, 0, none⟩ = W.cell? ⟨Ba, 0, none⟩ ∧ W'.cell? ⟨Bb, 0, none⟩ = W.cell? ⟨Bb, 0, none⟩
theorem KeepB.refl (n₁ Ba Bb : Nat) (W : World) : KeepB n₁ Ba Bb W W := ⟨Below.refl _ _, rfl, rfl⟩
theorem KeepB.trans {n₁ Ba Bb : Nat} {A B C : World} (h : KeepB n₁ Ba Bb A B) (g : KeepB n₁ Ba Bb B C) : KeepB n₁ Ba Bb A C := ⟨h.1.trans g.1, g.2.1.trans h.2.1, g.2.2.trans h.2.2⟩
theorem KeepB.drew {n₁ Ba Bb : Nat} {W : World} : KeepB n₁ Ba Bb W W.drew := ⟨(Below.refl _ _).drew, rfl, rfl⟩
theorem keepB_b {n₁ Ba Bb : Nat} {w : World} (hn : n₁ ≤ w.heap.size) (ha : Ba < w.heap.size) (hb : Bb < w.heap.size) (W : World) (l : Nat) (o o' : Obj) (hl : w.heap.size ≤ l) (h1 : W.heap[l]? = some o) (h2 : o.isCells = false) (h3 : o.isWalk = false) : KeepB n₁ Ba Bb W (W.putObj l o') := by
  have h : Below w.heap.size W (W.putObj l o') := belowK_b (w := w) (Nat.le_refl _) W l o o' hl h1 h2 h3
  exact ⟨h.mono hn, h.cell (p := ⟨Ba, 0, none⟩) ha, h.cell (p := ⟨Bb, 0, none⟩) hb⟩

theorem below_drewNs {B : Nat} {a w : World} (h : Below B a w) (k : Nat) : Below B a (w.drewN k) := ⟨h.os, h.tape, h.output, h.size, h.block⟩
theorem own_drewNs {w : World} {base : Nat} {e : TypeId} {size : Nat} {v : Value} {n : Nat} {xs : List Value} (h : w.ownsRow base e size v n xs) (k : Nat) : (w.drewN k).ownsRow base e size v n xs := h
theorem grown_drew (w : World) (row : Option Nat) : w.grownBy w.drew row := ⟨rfl, rfl, rfl, Nat.le_refl _, fun _ _ _ => rfl⟩
theorem infoU : (Tryz.prog.info? 74).map (fun i => (i.zero, i.size, i.bytes)) = some (some (.int .u64 0), 1, 8) := by kernel_rfl

end Go.Proofs.YtjnefacdindamaaGreatDoor
