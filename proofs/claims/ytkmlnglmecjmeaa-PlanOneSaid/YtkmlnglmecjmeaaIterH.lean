import Derived.RangeFuncNested
import Derived.RangeFuncBound
import Derived.RangeFuncCalls
import Derived.RangeFuncLeaves
import Derived.RangeFuncBox
import Derived.Shelf.Abstract
import Derived.Shelf.RegionOpen
import Derived.WalkKit
import Derived.OwnWalkIn
import Derived.TacticsInMore
import Derived.LoopNIn
import Derived.LoopIn
import Derived.Maps.AppendAt
import Derived.Test.YtkmlnglmecjmeaaCmpC
/- slices.Values over slices of spots goes through all heads; slices.Collect lays them into memory of its own, in order. Conditions: the slice reads as heads, of at most 1,000. -/
namespace Go.Proofs.Ytkmlnglmecjmeaa
open Go Go.RowKit Go.Shelf
set_option linter.unusedVariables false
attribute [local go_sem] Oper.semAt_some

/-- A head as a value. -/
abbrev hV (h : Hd) : Value := .slice h.1 h.2.1 h.2.2
theorem flat_hV (hs : List Hd) : hs.flatMap hC = hs.map hV := by
  induction hs with
  | nil => rfl
  | cons h hs ih => simp [List.flatMap_cons, ih]
theorem valuesH_any (A : Option Addr) (m c : Nat) (w : World) :
    Calls Try.prog 35 #[.slice A m c] w fun e w' => e = .returned (.func (.func 45) #[] #[.pointer (some ⟨w.heap.size, 0, none⟩)]) ∧ w' = w.alloc (.cells #[.slice A m c] 49) := by
  go_enter Try.func35, Try.ntmps35
  go_wp2
  go_ret
  exact ⟨rfl, rfl⟩
set_option maxRecDepth 100000 in
set_option maxHeartbeats 2000000 in
theorem valuesH1_in (n : Nat) (hn : 1 ≤ n) (l Bs n₀ : Nat) (hs : List Hd) (v : Value) (hl : hs.length ≤ 1000) (J Jx : List Hd → World → Prop) (W : World)
    (hY : ∀ pre (x : Hd) W, J pre W → pre.length < hs.length → YieldAt Fence.wide (n - 1) Try.prog l #[hV x] W fun e W' =>
      (e = .returned (.bool true) ∧ J (pre ++ [x]) W' ∧ Below n₀ W W') ∨ (e = .returned (.bool false) ∧ Jx (pre ++ [x]) W'))
    (hv : Heads n₀ W hs [v]) (hB : W.cell? ⟨Bs, 0, none⟩ = some v) (h0 : J [] W) :
    CallsIn Fence.wide n Try.prog 45 #[.func (.yield l) #[] #[], .pointer (some ⟨Bs, 0, none⟩)] W fun e W' => (∃ v, e = .returned v) ∧
      ((∃ ys, ys = hs ∧ J ys W') ∨ (∃ pre, (∃ k, k ≤ hs.length ∧ pre = hs.take k) ∧ Jx pre W')) := by
  obtain ⟨A, cap, rfl, hlc, hcm, hp⟩ := heads_at hv
  have HP := Lib.hid hp
  clear hp hv hcm
  refine callsIn_of_wp Try.func45 rfl trivial ?_ rfl
  simp only [Try.ntmps45, List.size_toArray, List.length_cons, List.length_nil, Nat.reduceAdd, Nat.reduceSub, Array.replicate_succ, Array.replicate_zero, List.push_toArray, List.append_toArray, List.nil_append, List.cons_append]
  gi_wp2
  gi_loopw [7] (fun i wr => ∃ k : Nat, k ≤ hs.length ∧ i = .int .i64 k ∧ J (hs.take k) wr ∧ Below n₀ W wr)
    (fun i _ => hs.length - (intOf i).toNat)
  case atStart => exact ⟨0, Nat.zero_le _, rfl, by simpa using h0, Below.refl _ _⟩
  case round =>
    obtain ⟨k, hk, rfl, hJs, hnx⟩ := hrel
    by_cases hlt : k < hs.length
    · have hd : decide (k < hs.length) = true := decide_eq_true hlt
      have hi : (k : Int) < (hs.length : Int) := by omega
      have hge : (0 : Int) ≤ (k : Int) := by omega
      obtain ⟨b, off, rfl, hb, hc⟩ := HP.out k hlt
      have hcx := (hnx.cell (p := ⟨b, off + k, none⟩) hb).trans hc
      have HT := Lib.hid (List.take_succ_eq_append_getElem hlt)
      obtain ⟨⟨xA, xn, xc⟩, hq⟩ : ∃ q, hs[k] = q := ⟨_, rfl⟩
      rw [hq] at hcx HT
      simp only at hcx
      obtain ⟨fn, tmps, assign, body, hy, hR⟩ := hY _ (xA, xn, xc) wr hJs (by rw [List.length_take]; omega)
      rw [← HT.out] at hR
      dsimp only [hV] at hy
      clear hc hq hY
      gi_wp2
      refine hR.mono ?_
      rintro e W3 (⟨rfl, hJ3, hk3⟩ | ⟨rfl, hJx3⟩)
      · gi_wp2
        go_roundw
        case rel => exact ⟨k + 1, by omega, by go_num, hJ3, hnx.trans hk3⟩
        case measure => simp [intOf]; omega
      · gi_wp2
        refine bodyPost_ret (results_none rfl _ _ _) rfl ?_
        exact ⟨⟨_, rfl⟩, .inr ⟨_, ⟨k + 1, by omega, rfl⟩, hJx3⟩⟩
    · have hd : decide (k < hs.length) = false := decide_eq_false hlt
      have hkk : hs.take k = hs := List.take_of_length_le (by omega)
      rw [hkk] at hJs
      clear hkk
      gi_wp2
      go_end0
      exact ⟨⟨_, rfl⟩, .inl ⟨_, rfl, hJs⟩⟩
theorem valuesH_stops (n : Nat) (hn : 1 ≤ n) (Bs n₀ : Nat) (hs : List Hd) (v : Value) (hl : hs.length ≤ 1000) (w : World) (hn₀ : n₀ ≤ w.heap.size) (hBs : Bs < w.heap.size) (hv : Heads n₀ w hs [v]) (hB : w.cell? ⟨Bs, 0, none⟩ = some v) :
    SeqStopsK Fence.wide n Try.prog 45 #[.pointer (some ⟨Bs, 0, none⟩)] (fun x : Hd => #[hV x]) (Below n₀) (fun ys => ys = hs) (fun pre => ∃ k, k ≤ hs.length ∧ pre = hs.take k) hs.length w := fun l J Jx W hW _ _ hY h0 =>
  valuesH1_in n hn l Bs n₀ hs v hl J Jx W hY (keeps_heads _ _ _ _ _ _ hv (hW.mono hn₀) (Nat.le_refl _)) ((hW.cell (p := ⟨Bs, 0, none⟩) hBs).trans hB) h0

set_option maxRecDepth 100000 in
set_option maxHeartbeats 4000000 in
theorem appendSeq_in (Bs : Nat) (hs : List Hd) (v : Value) (hl : hs.length ≤ 1000) (w : World) (hBs : Bs < w.heap.size) (hv : Heads w.heap.size w hs [v]) (hB : w.cell? ⟨Bs, 0, none⟩ = some v) :
    CallsIn Fence.wide 5 Try.prog 62 #[.slice none 0 0, .func (.func 45) #[] #[.pointer (some ⟨Bs, 0, none⟩)]] w fun e W' => ∃ v', e = .returned v' ∧ W'.ownsRow w.heap.size 32 1 v' hs.length (hs.map hV) ∧ Below w.heap.size w W' := by
  obtain ⟨i0, hi, hz0, hz1, hz2⟩ := info_parts infoH
  refine callsIn_of_wp_marks Try.func62 rfl trivial ?_ rfl
  simp only [Try.ntmps62, List.size_toArray, List.length_cons, List.length_nil, Nat.reduceAdd, Nat.reduceSub, Array.replicate_succ, Array.replicate_zero, List.push_toArray, List.append_toArray, List.nil_append, List.cons_append]
  gi_wp2
  have bO := Boxed.new w 49 (.slice none 0 0)
  have hB0 : Below w.heap.size w (w.alloc (.cells #[.slice none 0 0] 49)) := (Below.refl _ w).alloc (Nat.le_refl _) _
  refine wpIn_rangeFunc_ownG rfl (by omega) (gf := 45) (lb := #[.pointer (some ⟨Bs, 0, none⟩)]) rfl trivial (enters_of Try.func45 (by kernel_rfl) rfl)
    (valuesH_stops (5 - 1) (by omega) Bs w.heap.size hs v hl _ hB0.size (by simp; omega) (keeps_heads _ _ _ _ _ _ hv hB0 (Nat.le_refl _)) ((hB0.cell (p := ⟨Bs, 0, none⟩) hBs).trans hB)) belowK_t (belowK_b (by simp)) (Below.refl _ _) (fun _ => rfl)
    (fun pre W => (∃ v, Boxed W w.heap.size 49 v ∧ W.ownsRow w.heap.size 32 1 v pre.length (pre.map hV) ∧ True) ∧ Below w.heap.size w W)
    (fun _ _ _ => False)
    (OwnFrom.and (Own.from (holdsRow_own w.heap.size w.heap.size 49 32 1 (fun pre => pre.length) (fun pre : List Hd => pre.map hV) (fun pre v => True)) _) (ownFrom_below (Nat.le_refl _) (by simp)))
    (fun _ _ _ _ _ hs _ _ => hs)
    ⟨⟨_, bO, World.ownsRow_nil _ _ _ _, trivial⟩, hB0⟩
    (fun x => { tmps := #[.slice none 0 0, .func (.func 45) #[] #[.pointer (some ⟨Bs, 0, none⟩)], .pointer (some ⟨w.heap.size, 0, none⟩), undef, .slice none 0 0, hV x, .func (.func 45) #[] #[.pointer (some ⟨Bs, 0, none⟩)], hV x, undef, undef, undef, undef, undef], defers := [] }) ?assign ?body ?done ?stop
  case assign =>
    intro l x W K hK
    gi_wp2
    exact hK
  case body =>
    rintro l pre ⟨xA, xn, xc⟩ W ⟨⟨v, hv, hrow, _⟩, hB⟩ hlt
    have hc := hv.cell
    gi_wp2_with (gi_at_builtin; refine wpListIn_append_own _ rfl _ _ 49 rfl w.heap.size 32 i0 (.slice none 0 0) 1 24 Try.underlying49 hi hz0 hz1 hz2 rfl (by decide) _ _ _ rfl (hrow.alloc _) ⟨W.heap.size, 0, none⟩ 1 1 [.slice xA xn xc] rfl rfl (cell_one_new _ _ _) (by simp [Value.oneCell']) (by have : maxLen = 9223372036854775807 := rfl; omega) (by omega) (by have := hB.size; simp; omega) ?_; intro v' w1 hown' hgrow _; obtain ⟨g', cap', rfl⟩ := ownsRow_succ hown'; obtain ⟨hv1, hv2, hr2, hk2, hb2⟩ := hv.appended (by decide) hrow hB.size (Nat.le_refl _) hown' hgrow; have hc1 := hv1.cell; have hf1 := hv1.frozen)
    exact ⟨hk2.from _, hb2, ⟨_, hv2, by simpa using hr2, trivial⟩, hB.trans hb2⟩
  case done =>
    rintro D ys W hD rfl ⟨⟨v, hv, hrow, _⟩, hB⟩ hK
    have hc := hv.cell
    gi_wp2
    refine ⟨by simp, .inl ⟨_, _, rfl, run_takeDeferred hK, ?_⟩⟩
    exact ⟨_, results_tmp rfl _ _ _, v, rfl, ownsRow_putObj hrow _ hK rfl, hB.trans (belowK_b (w := w) (Nat.le_refl _) W D _ _ (by simp at hD; omega) hK rfl rfl)⟩
  case stop =>
    rintro D c pre W _ _ h _
    exact h.elim
set_option maxHeartbeats 1000000 in
theorem collectH_any (Bs : Nat) (hs : List Hd) (v : Value) (hl : hs.length ≤ 1000) (w : World) (hBs : Bs < w.heap.size) (hv : Heads w.heap.size w hs [v]) (hB : w.cell? ⟨Bs, 0, none⟩ = some v) :
    Calls Try.prog 43 #[.func (.func 45) #[] #[.pointer (some ⟨Bs, 0, none⟩)]] w fun e W' => ∃ v', e = .returned v' ∧ W'.ownsRow w.heap.size 32 1 v' hs.length (hs.map hV) ∧ Below w.heap.size w W' := by
  go_enter Try.func43, Try.ntmps43
  go_wp2_with fail
  refine (callsIn_wide.1 (appendSeq_in Bs hs v hl w hBs hv hB)).mono ?_
  rintro e W1 ⟨v', rfl, ho, hb⟩
  have HO := Lib.hid ho
  clear ho
  go_wp2
  go_ret
  exact ⟨_, rfl, HO.out, hb⟩

end Go.Proofs.Ytkmlnglmecjmeaa
