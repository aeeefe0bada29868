import Derived.Test.YtkmlnglmecjmeaaPruA
/- Layer 11's calls: Only and Without. Conditions: the slice reads as a tree's spots, of at most 128; members of at most 1000. -/
namespace Go.Proofs.Ytkmlnglmecjmeaa
open Go Go.RowKit
set_option linter.unusedVariables false

set_option maxRecDepth 100000 in
theorem pr_nil (kv f v : Value) (w : World) (h : Spots w.heap.size w [] [v]) :
    Calls Try.prog 31 #[kv, v, f] w fun e W' => e = .returned (.tuple #[kv, .slice none 0 0]) ∧ w = W' := by
  obtain ⟨A, cap, rfl, _, _, _⟩ := spots_at h
  clear h
  go_enter Try.func31, Try.ntmps31
  go_wp2
  go_ret2
  exact ⟨rfl, rfl⟩
set_option maxRecDepth 100000 in
set_option maxHeartbeats 4000000 in
theorem only1_any (u : Value) (K : List (Int × Int)) (gB : Nat) (a b : Int) (w : World) (hc : w.cell? ⟨gB, 0, none⟩ = some u) (hK : Mems w.heap.size w K [u]) (hl : K.length ≤ 1000) :
    Calls Try.prog 32 #[vM a b, .pointer (some ⟨gB, 0, none⟩)] w fun e W' => e = .returned (.bool (decide ((a, b) ∈ K))) ∧ Below w.heap.size w W' := by
  have B := below_new w (.cells #[.int .i64 a, .int .i64 b] 27)
  have hgl := World.block_lt_of_cell? w ⟨gB, 0, none⟩ hc
  have hc0 := (B.cell (p := ⟨gB, 0, none⟩) hgl).trans hc
  have HK := Lib.hid (has_any u K a b _ (keeps_mems _ _ _ _ _ _ hK B B.size))
  obtain ⟨A, cap, rfl, -⟩ := mems_at hK
  clear hK hc
  go_enter Try.func32, Try.ntmps32
  go_wp2_with fail
  refine HK.out.mono ?_
  rintro e W1 ⟨rfl, hb⟩
  go_wp2
  go_ret
  exact ⟨rfl, B.trans (hb.mono B.size)⟩
/-- What stays, of a tree or of nothing. -/
def keepPO (p : Int × Int → Bool) : Option Tr → Option Tr
  | none => none
  | some t => keepP p t
theorem keepPO_keep {p : Int × Int → Bool} {K : List (Int × Int)} {ot : Option Tr} (h : ∀ m ∈ lvO ot, p m = decide (m ∈ K)) : keepPO p ot = keepO K ot := by
  cases ot with
  | none => rfl
  | some t => exact keepP_keep h
set_option maxRecDepth 100000 in
set_option maxHeartbeats 4000000 in
theorem pOnly_any (v u : Value) (ot : Option Tr) (K : List (Int × Int)) (w : World) (h : Spots w.heap.size w (spo ot) [v]) (hK : Mems w.heap.size w K [u]) (hk : okT (spo ot) = true) (hl : K.length ≤ 1000) :
    Calls Try.prog 19 #[v, u] w fun e W' => ∃ v', e = .returned v' ∧ Spots W'.heap.size W' (spo (keepO K ot)) [v'] ∧ Below w.heap.size w W' := by
  obtain ⟨uA, ucap, rfl, -⟩ := mems_at hK
  obtain ⟨u, hu⟩ : ∃ u, u = Value.slice uA K.length ucap := ⟨_, rfl⟩
  rw [← hu] at hK ⊢
  have B := below_new w (.cells #[u] 22)
  have hbox : (w.alloc (.cells #[u] 22)).cell? ⟨w.heap.size, 0, none⟩ = some u := by simp
  have hsz : (w.alloc (.cells #[u] 22)).heap.size = w.heap.size + 1 := by simp
  obtain ⟨hn, hw, -⟩ := okT_parts hk
  have HP : Hid (Calls Try.prog 31 #[.slice none 0 0, v, .func (.func 32) #[] #[.pointer (some ⟨w.heap.size, 0, none⟩)]] (w.alloc (.cells #[u] 22)) fun e W' => ∃ v' l', e = .returned (.tuple #[v', l']) ∧ Spots W'.heap.size W' (spo (keepO K ot)) [v'] ∧ Below w.heap.size w W') := Lib.hid (by
    rw [← keepPO_keep (p := fun m => decide (m ∈ K)) (fun _ _ => rfl)]
    generalize w.alloc (.cells #[u] 22) = W0 at *
    have hS := keeps_spots _ _ _ _ _ _ h B B.size
    have hM := keeps_mems _ _ _ _ _ _ hK B B.size
    cases ot with
    | none =>
      refine (pr_nil _ _ v W0 hS).mono ?_
      rintro e W' ⟨rfl, rfl⟩
      exact ⟨_, _, rfl, own_spots (World.ownsRow_nil _ 0 _ _), B⟩
    | some t =>
      refine (pr_only (fun m => decide (m ∈ K)) w.heap.size W0.heap.size W0 (Nat.le_refl _) (Lib.hid fun W a b hB _ => ?_) t [] [] _ v W0 (okIn_of hw) (Below.refl _ _) (World.ownsRow_nil _ _ _ _) (by rw [List.append_nil]; exact hS) ?_ ?_).mono ?_
      · exact only1_any u K _ a b W ((hB.cell (p := ⟨w.heap.size, 0, none⟩) (by show w.heap.size < _; omega)).trans hbox) (keeps_mems _ _ _ _ _ _ hM hB hB.size) hl
      · have : (flat t).length ≤ 128 := hn; simp; omega
      · have : (flat t).length ≤ 128 := hn; simp; omega
      · rintro e W' ⟨v', l', rfl, h1, -, h2⟩
        exact ⟨v', l', rfl, own_spots (xs := spo (keepP _ t)) (by simpa only [List.nil_append] using h1), B.trans (h2.mono B.size)⟩)
  clear h hK hk hn hw hbox hsz B
  subst hu
  go_enter Try.func19, Try.ntmps19
  go_wp2_with fail
  refine HP.out.mono ?_
  rintro e W1 ⟨v', l', rfl, h1, B⟩
  have H1 := Lib.hid h1
  clear h1
  go_wp2
  go_ret
  exact ⟨_, rfl, H1.out, B⟩
end Go.Proofs.Ytkmlnglmecjmeaa
