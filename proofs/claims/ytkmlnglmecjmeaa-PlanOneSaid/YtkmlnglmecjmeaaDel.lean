import Derived.Test.YtkmlnglmecjmeaaTreeKA
import Derived.Lib.LazyBuf
import Derived.Deep.RegionLaw
import Derived.Maps.AppendAt
/- slices.Delete of one spot, of spots of one's own: it is gone, in place. Condition: the slice reads ps spots of one's own, of at most a few million. -/
namespace Go.Proofs.Ytkmlnglmecjmeaa
open Go Go.RowKit
set_option linter.unusedVariables false

theorem grown_setCells (b : Nat) : ∀ (vs : List Value) (o : Nat) (w : World), w.grownBy (w.setCells b o vs) (some b)
  | [], _, w => World.grownBy.refl w _
  | v :: r, o, w => (⟨rfl, rfl, rfl, by simp, fun k hk hne => (by simp [World.setCell, Array.getElem?_modify]; intro h; exact absurd (by rw [h]) hne)⟩ : w.grownBy (w.setCell ⟨b, o, none⟩ v) (some b)).trans (grown_setCells b r (o + 1) _)

theorem run_clear_cells {P : Program} (w : World) (t e ty : TypeId) (z : Value) (ht : P.underlying t = some (.slice e)) (hv : ∀ w, (zeroValue e).run P w = .ok z w) (b o n c : Nat) (hn : 0 < n) (zs : List Value) (hz : (Builtin.zeroCells z.cells n).toList = zs) (h1 : ∀ u ∈ zs, u.oneCell' = true)
    (hc : ∀ j, j < zs.length → (w.cell? ⟨b, o + j, none⟩).isSome = true) (hf : ∀ j, j < zs.length → w.frozen? ⟨b, o + j, none⟩ = false) :
    (Builtin.clear_ #[t] ty #[.slice (some ⟨b, o, none⟩) n c]).run P w = .ok (.tuple #[]) (w.setCells b o zs) := by
  have hst := run_storeCells_cells (P := P) b o zs 0 w (by simpa using hc) (by simpa using hf) h1
  simp only [Nat.add_zero] at hst
  obtain ⟨m, rfl⟩ : ∃ m, n = m + 1 := ⟨n - 1, by omega⟩
  simp [Builtin.clear_, run_underlying ht, hv, hz, hst]

set_option maxRecDepth 1000000 in
set_option maxHeartbeats 4000000 in
theorem delete_own (base : Nat) (v : Value) (ps qs : List Sp) (x : Sp) (J : Int) (w : World) (hown : w.ownsRow base 56 3 v (ps ++ x :: qs).length ((ps ++ x :: qs).flatMap spC)) (hJ : J = (ps.length : Int) + 1) (hm : (ps ++ x :: qs).length ≤ 4000000) :
    Calls Try.prog 41 #[v, .int .i64 (ps.length : Int), .int .i64 J] w fun e W' => ∃ v', e = .returned v' ∧ W'.ownsRow base 56 3 v' (ps ++ qs).length ((ps ++ qs).flatMap spC) ∧ w.grownBy W' v.ownBlock := by
  obtain ⟨i0, hi0, hz0, hz1, hz2⟩ := info_parts infoS
  have hlen : (ps ++ x :: qs).length = ps.length + 1 + qs.length := by simp; omega
  rcases hown.2 with ⟨hv, h0⟩ | ⟨g, cap, cur, hv, hbg, hg, hnc, hcm, hcs, htake⟩
  · omega
  subst hv
  have hxl := hown.1
  rw [hlen] at hnc htake hm
  have hcur : ∀ k, k < (ps.length + 1 + qs.length) * 3 → cur[k]? = ((ps ++ x :: qs).flatMap spC)[k]? := fun k hk => by
    rw [← htake, List.getElem?_take_of_lt hk]; simp
  -- the row, by the place
  have R0 : w.drew.rowIs g 56 (cap * 3) (fun k => cur[k]?.getD default) := ⟨cur, hg, hcs, fun k hk => by rw [Array.getElem?_eq_getElem (by omega)]; simp [show k < cur.size by omega]⟩
  obtain ⟨i, hi⟩ : ∃ i, ps.length = i := ⟨_, rfl⟩
  obtain ⟨m, hmb⟩ : ∃ m, qs.length = m := ⟨_, rfl⟩
  obtain ⟨news, hnews⟩ : ∃ news, qs.flatMap spC = news := ⟨_, rfl⟩
  have hnl : news.length = m * 3 := by rw [← hnews, flat_len (enc := spC) (s := 3) (fun _ => rfl), hmb]
  obtain ⟨ahead, hahead⟩ : ∃ a, ps.flatMap spC = a := ⟨_, rfl⟩
  have hal : ahead.length = i * 3 := by rw [← hahead, flat_len (enc := spC) (s := 3) (fun _ => rfl), hi]
  have hfl : (ps ++ x :: qs).flatMap spC = ahead ++ (spC x ++ news) := by rw [List.flatMap_append, List.flatMap_cons, hahead, hnews]
  rw [hi, hmb] at hlen hcur hm
  rw [hi, hmb] at hnc
  rw [hfl] at hcur
  have hc1 : ∀ k, k < i * 3 → cur[k]? = ahead[k]? := fun k hk => by rw [hcur k (by omega), List.getElem?_append_left (by omega)]
  have hc2 : ∀ k, k < m * 3 → cur[(i + 1) * 3 + k]? = news[k]? := fun k hk => by
    rw [hcur _ (by omega), List.getElem?_append_right (by omega), List.getElem?_append_right (by simp; omega)]
    congr 1
    simp
    omega
  have s1 : Hid (news.length = m * 3) := Lib.hid hnl
  have s2 : Hid (∀ u ∈ news, u.oneCell' = true) := Lib.hid (by
    intro u hu
    rw [← hnews] at hu
    obtain ⟨y, _, hy⟩ := List.mem_flatMap.1 hu
    exact oneS y u hy)
  have s3 : Hid (∀ t, t < news.length → (w.drew.cell? ⟨g, 0 + i * 3 + t, none⟩).isSome = true ∧ w.drew.frozen? ⟨g, 0 + i * 3 + t, none⟩ = false) := Lib.hid fun t ht => ⟨by rw [R0.cell (by omega)]; rfl, R0.frozen _⟩
  obtain ⟨A, hA, hsrc⟩ : ∃ A : Addr, (if cap = i + 1 then some (⟨g, 0, none⟩ : Addr) else some ⟨g, (i + 1) * 3, none⟩) = some A ∧ Hid (∀ t u, news[t]? = some u → w.drew.cell? (A.add t) = some u) := by
    by_cases h : cap = i + 1
    · refine ⟨⟨g, 0, none⟩, by simp [h], Lib.hid fun t u hu => ?_⟩
      have h0 : news.length = 0 := by omega
      rw [List.length_eq_zero_iff.1 h0] at hu
      simp at hu
    · refine ⟨⟨g, (i + 1) * 3, none⟩, by simp [h], Lib.hid fun t u hu => ?_⟩
      have ht : t < m * 3 := by
        have := (List.getElem?_eq_some_iff.1 hu).1
        omega
      rw [Addr.add_lit, R0.cell (by omega), hc2 t ht, hu]
      rfl
  obtain ⟨zs, hzs⟩ : ∃ zs, (Builtin.zeroCells (Value.agg #[.bool false, .int .i64 0, .int .i64 0]).cells 1).toList = zs := ⟨_, rfl⟩
  have hz3 : (Builtin.zeroCells (Value.agg #[.bool false, .int .i64 0, .int .i64 0]).cells 1).toList = [.bool false, .int .i64 0, .int .i64 0] := by kernel_rfl
  have hzl : zs.length = 3 := by rw [← hzs, hz3]; rfl
  have hz1c : ∀ u ∈ zs, u.oneCell' = true := by
    rw [← hzs, hz3]
    intro u hu
    simp at hu
    rcases hu with rfl | rfl | rfl <;> rfl
  obtain ⟨W1, hW1⟩ : ∃ W1, W1 = w.drew.setCells g (0 + i * 3) news := ⟨_, rfl⟩
  have R1 := Go.rowIs_setCells news (0 + i * 3) w.drew _ R0
  rw [← hW1] at R1
  have R2 := Go.rowIs_setCells zs ((i + m) * 3) W1 _ R1
  have G : w.grownBy (W1.setCells g ((i + m) * 3) zs) (some g) := by
    have g0 : w.grownBy w.drew (some g) := ⟨rfl, rfl, rfl, Nat.le_refl _, fun _ _ _ => rfl⟩
    rw [hW1]
    exact (g0.trans (grown_setCells g news _ _)).trans (grown_setCells g zs _ _)
  have hcl : ∀ ty, (Builtin.clear_ #[32] ty #[.slice (some ⟨g, (i + m) * 3, none⟩) 1 (cap - (i + m))]).run Try.prog W1 = .ok (.tuple #[]) (W1.setCells g ((i + m) * 3) zs) := fun ty =>
    run_clear_cells W1 _ 56 ty _ Try.underlying32 Try.zeroValue56 g _ 1 _ (by decide) zs hzs hz1c (fun j hj => by rw [R1.cell (by omega)]; rfl) (fun j hj => R1.frozen _)
  have FIN : Hid ((W1.setCells g ((i + m) * 3) zs).ownsRow base 56 3 (.slice (some ⟨g, 0, none⟩) (i + m) cap) (i + m) (ahead ++ news)) := Lib.hid (by
    obtain ⟨c, hc, hcs', hcc⟩ := R2
    refine ⟨by rw [List.length_append]; omega, .inr ⟨g, cap, c, rfl, hbg, hc, by omega, hcm, hcs', ?_⟩⟩
    apply List.ext_getElem?
    intro k
    by_cases hk : k < (i + m) * 3
    · rw [List.getElem?_take_of_lt hk, Array.getElem?_toList, hcc k (by omega)]
      simp only []
      rw [if_neg (by omega)]
      by_cases hk1 : k < i * 3
      · rw [if_neg (by omega), hc1 k hk1, List.getElem?_append_left (by omega), List.getElem?_eq_getElem (by omega)]
        rfl
      · rw [if_pos (by omega), List.getElem?_append_right (by omega), Nat.zero_add, hal, List.getElem?_eq_getElem (by omega)]
        rfl
    · rw [List.getElem?_eq_none (by rw [List.length_take, Array.length_toList]; omega), List.getElem?_eq_none (by rw [List.length_append]; omega)])
  have HR : Hid ((ps ++ qs).flatMap spC = ahead ++ news ∧ (ps ++ qs).length = i + m) := Lib.hid ⟨by rw [List.flatMap_append, hahead, hnews], by rw [List.length_append, hi, hmb]⟩
  have HG := Lib.hid G
  have HW := Lib.hid hW1
  subst hJ
  rw [hlen, hi]
  have hic : i ≤ cap := by omega
  have hjc : i + 1 ≤ cap := by omega
  have hcm2 : cap ≤ 9223372036854775807 := Nat.le_trans hcm (by decide)
  clear G hW1 R0 R1 R2 hown hcur hc1 hc2 hxl htake hcs hg hbg hnl hal hfl hlen hi hmb hnews hahead hz1c hz3 hzl hzs hcm
  rw [show ((i : Int) + 1) = ((i + 1 : Nat) : Int) by omega]
  obtain ⟨j, hj⟩ : ∃ j, i + 1 = j := ⟨_, rfl⟩
  have hij : i < j := by omega
  have hcl : ∀ ty, (Builtin.clear_ #[32] ty #[.slice (some ⟨g, (i + m) * 3, none⟩) (j + m - (i + m)) (cap - (i + m))]).run Try.prog W1 = .ok (.tuple #[]) (W1.setCells g ((i + m) * 3) zs) := by rw [show j + m - (i + m) = 1 by omega]; exact hcl
  rw [hj] at hnc hjc hA hm ⊢
  clear hj
  obtain ⟨N, hN⟩ : ∃ N, j + m = N := ⟨_, rfl⟩
  rw [hN] at hnc hm hcl ⊢
  obtain rfl : m = N - j := by omega
  have hjN : j ≤ N := by omega
  clear hN
  have hj0 : ((i : Int) == (j : Int)) = false := beq_eq_false_iff_ne.2 (by omega)
  go_enter Try.func41, Try.ntmps41
  go_wp2_with fail
  go_region_law (refine step_append_room rfl (.tmp 22) (.tmp 25) 32 rfl 56 i0 3 Try.underlying32 hi0 hz1 g 0 i cap (by simp [Act.eval, Act.put]) A (N - j) (cap - j) news (by simp [Act.eval, Act.put]) s1.out hsrc.out s2.out (by omega) s3.out ?_; rw [← HW.out])
  go_wp2
  go_ret
  rw [HR.out.1, HR.out.2]
  exact ⟨_, rfl, FIN.out, HG.out⟩

end Go.Proofs.Ytkmlnglmecjmeaa
