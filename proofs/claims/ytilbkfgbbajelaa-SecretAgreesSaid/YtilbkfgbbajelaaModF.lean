/- (modulus.odd).fill answers a number with noughts on top, as many limbs as the odd number has. Conditions: the slices read as limbs; lengths below 2^40. -/
import Derived.Test.YtilbkfgbbajelaaModA
import Derived.Laws.CopyOwn
namespace Go.Proofs.Ytilbkfgbbajelaa
open Go.RowKit Go.Shelf Num
set_option linter.unusedVariables false

/-- Answers a list of L limbs that is the number n; nothing below is turned. -/
def Fills (L n : Nat) (w : World) : Ending → World → Prop := fun e W' => ∃ r rs, e = .returned r ∧ Lim W'.heap.size W' r rs ∧ rs.length = L ∧ val rs = n ∧ Below w.heap.size w W'

theorem lim_of_cells {w : World} {g : Nat} {xs : List Nat} (h : w.heap[g]? = some (.cells (Us xs).toArray 32 (0, 0))) (ho : Ok xs) : Lim w.heap.size w (.slice (some ⟨g, 0, none⟩) xs.length xs.length) xs := by
  refine ⟨_, _, rfl, Nat.le_refl _, (fun h => by cases h), ho, fun hp => ⟨g, 0, rfl, (Array.getElem?_eq_some_iff.1 h).1, fun j hj => ?_⟩⟩
  simp [World.cell?, h, Us, lat, hj]

def noughts (n : Nat) : List Nat := List.replicate n 0
theorem noughts_ok (n : Nat) : Ok (noughts n) := fun x hx => by rw [(List.mem_replicate.1 hx).2]; exact M_pos
theorem noughts_val (n : Nat) : val (noughts n) = 0 := by
  induction n with
  | zero => rfl
  | succ n ih => show 0 + M * val (noughts n) = 0; rw [ih, Nat.mul_zero]
theorem noughts_len (n : Nat) : (noughts n).length = n := List.length_replicate
theorem made_noughts (n : Nat) : (madeCells #[.int .u64 0] n) = (Us (noughts n)).toArray := by
  apply Array.toList_inj.1
  rw [toList_madeCells_one]
  simp [Us, noughts]
theorem splice_fill (L : Nat) (xs : List Nat) (h : xs.length ≤ L) : splice (Us (noughts L)) 0 (Us xs) = Us (xs ++ noughts (L - xs.length)) := by
  simp [splice, Us, noughts, List.drop_replicate]

theorem heap_last (w : World) (o : Obj) : (w.alloc o).heap[w.heap.size]? = some o := Array.getElem?_push_size
theorem made_at (w : World) (o : Obj) (n : Nat) : ((w.alloc o).alloc (.cells (madeCells #[.int .u64 0] n) 32)).heap[w.heap.size + 1]? = some (.cells (Us (noughts n)).toArray 32 (0, 0)) := by
  rw [made_noughts]
  have h := heap_last (w.alloc o) (.cells (Us (noughts n)).toArray 32)
  rwa [World.size_alloc] at h
theorem lim_src {n₀ : Nat} {w : World} {B : Option Addr} {n c : Nat} {xs : List Nat} (h : Lim n₀ w (.slice B n c) xs) (hp : 0 < xs.length) : ∃ ad, B = some ad ∧ ∀ j v, (Us xs)[j]? = some v → w.cell? (ad.add j) = some v := by
  obtain ⟨A', c', hv, _, _, _, hr⟩ := id h
  injection hv with h1 h2 h3
  obtain ⟨b, off, rfl, _⟩ := hr hp
  subst h1
  have := lim_cells h xs.length (Nat.le_refl _)
  rw [List.take_length] at this
  exact ⟨_, rfl, this⟩

set_option maxRecDepth 100000 in
set_option maxHeartbeats 4000000 in
theorem fill_any (v u : Value) (ms xs : List Nat) (i : Nat) (w : World) (hLm : Lim w.heap.size w v ms) (hLx : Lim w.heap.size w u xs) (hlm : ms.length ≤ 549755813888) (hle : xs.length ≤ ms.length) :
    Calls Try.prog 83 #[.agg #[v, .int .u64 (i : Int)], u] w (Fills ms.length (val xs) w) := by
  obtain ⟨i0, hi, hz0, hz1, hz2⟩ := info_parts infoU
  have hsz : (Try.prog.info? 32).map (·.size) = some 1 := by rw [hi]; simp [hz1]
  obtain ⟨A, ca, rfl, hca, hna, _, hra⟩ := id hLm
  obtain ⟨B, cb, rfl, hcb, hnb, hox, hrb⟩ := id hLx
  go_enter Try.func83, Try.ntmps83
  go_wp2_with (first
    | refine wpList_make_row _ rfl _ _ 28 rfl 32 i0 (.int .u64 0) Try.underlying28 hi hz0 hz1 rfl .i64 .i64 ms.length rfl rfl (by rw [hz2]; omega) (by omega) ?_
    | (refine wpList_copy_splice rfl (.tmp 10) (.tmp 11) 28 28 rfl 32 Try.underlying28 hsz _ _ _ _ _ _ rfl rfl (w.heap.size + 1) 0 (Us (noughts ms.length)) 32 (made_at w _ _) (Us xs) (by rw [Us_length]; exact (Nat.min_eq_left hle).symm) (fun hp => ⟨rfl, lim_src ((hLx.alloc _).alloc _) (by rwa [Us_length] at hp)⟩) (by rw [Us_length, Us_length, noughts_len]; omega) (Us_cell _) w.heap.size w (((Below.refl _ w).alloc (Nat.le_refl _) _).alloc (by simp) _) (by omega) ?_; intro w2 HG2 hB2))
  go_ret
  have hG := HG2.out
  rw [splice_fill _ _ hle] at hG
  have hl : (xs ++ noughts (ms.length - xs.length)).length = ms.length := by rw [List.length_append, noughts_len]; omega
  have hL := lim_of_cells hG (ok_append hox (noughts_ok _))
  rw [hl] at hL
  refine ⟨_, _, rfl, hL, hl, ?_, hB2⟩
  rw [val_append, noughts_val, Nat.mul_zero, Nat.add_zero]

end Go.Proofs.Ytilbkfgbbajelaa
