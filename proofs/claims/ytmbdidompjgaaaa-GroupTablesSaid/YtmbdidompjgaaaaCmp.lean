/- nat.Compare answers -1, 0 or 1 as the first number is less, the same or more, and leaves memory below as it was. Conditions: both slices read as limbs; lengths below 2^40. -/
import Derived.Test.YtmbdidompjgaaaaIter
namespace Go.Proofs.Ytmbdidompjgaaaa
open Go.RowKit Go.Shelf Num
set_option linter.unusedVariables false
attribute [local go_sem] Oper.semAt_some

set_option maxRecDepth 100000 in
set_option maxHeartbeats 2000000 in
theorem compare_in (A B : Option Addr) (na nb ca cb : Nat) (xs ys : List Nat) (w : World) (hLa : Lim w.heap.size w (.slice A na ca) xs) (hLb : Lim w.heap.size w (.slice B nb cb) ys) (hlx : xs.length ≤ 1099511627776) (hly : ys.length ≤ 1099511627776) :
    CallsIn Fence.wide 5 Try.prog 28 #[.slice A na ca, .slice B nb cb] w fun e W' => e = .returned (.int .i64 (cmpN (val xs) (val ys))) ∧ Below w.heap.size w W' := by
  have hx := hLa.ok
  have hy := hLb.ok
  refine callsIn_of_wp_marks Try.func28 rfl trivial ?_ rfl
  simp only [Try.ntmps28, List.size_toArray, List.length_cons, List.length_nil, Nat.reduceAdd, Nat.reduceSub, Array.replicate_succ, Array.replicate_zero, List.push_toArray, List.append_toArray, List.nil_append, List.cons_append]
  gi_wp2_with (refine ⟨trivial, ?_⟩; gi_at_call 48; refine (side_in _ _ _ _ _ _ _ _).mono ?_; rintro e w' ⟨rfl, rfl⟩)
  have bO := Boxed.new w 3 (.int .i64 0)
  have bA := Boxed.new (w.alloc (.cells #[.int .i64 0] 3)) 25 (.slice A na ca)
  rw [World.size_alloc] at bA
  have bB := Boxed.new ((w.alloc (.cells #[.int .i64 0] 3)).alloc (.cells #[.slice A na ca] 25)) 25 (.slice B nb cb)
  rw [World.size_alloc, World.size_alloc] at bB
  have hB0 : Below w.heap.size w (((w.alloc (.cells #[.int .i64 0] 3)).alloc (.cells #[.slice A na ca] 25)).alloc (.cells #[.slice B nb cb] 25)) := (((Below.refl _ w).alloc (Nat.le_refl _) _).alloc (by simp) _).alloc (by simp; omega) _
  have bO' := (bO.alloc (.cells #[.slice A na ca] 25)).alloc (.cells #[.slice B nb cb] 25)
  have bA' := bA.alloc (.cells #[.slice B nb cb] 25)
  refine wpIn_rangeFunc_ownG rfl (by omega) (gf := 64) (lb := #[.pointer (some ⟨w.heap.size + 1, 0, none⟩), .pointer (some ⟨w.heap.size + 1 + 1, 0, none⟩)]) rfl trivial (enters_of Try.func64 (by kernel_rfl) rfl)
    (side_stops (5 - 1) (by omega) (w.heap.size + 1) (w.heap.size + 1 + 1) w.heap.size A B na nb ca cb xs ys hx hy hlx hly _ hB0.size (by simp) (by simp) (hLa.below hB0) (hLb.below hB0) bA'.cell bB.cell)
    KeepB.trans (keepB_b hB0.size (by simp) (by simp)) (Below.refl _ _) (fun _ => rfl)
    (fun pre W => (Boxed W w.heap.size 3 (.int .i64 (cmpF pre)) ∧ Boxed W (w.heap.size + 1) 25 (.slice A na ca) ∧ Boxed W (w.heap.size + 1 + 1) 25 (.slice B nb cb)) ∧ Below w.heap.size w W)
    (fun _ _ _ => False)
    (OwnFrom.and (OwnFrom.and (Own.from (boxed_own _ _ _) _) (OwnFrom.and (Own.from (boxed_own _ _ (fun _ => _)) _) (Own.from (boxed_own _ _ (fun _ => _)) _))) (ownFrom_below (Nat.le_refl _) (by simp; omega)))
    (fun _ _ _ _ _ hs _ _ => hs)
    ⟨⟨bO', bA', bB⟩, hB0⟩
    (fun x => { tmps := #[.slice A na ca, .slice B nb cb, undef, undef, .int .i64 0, .pointer (some ⟨w.heap.size, 0, none⟩), .int .u64 (x.1.1 : Int), .int .u64 (x.1.2 : Int), undef, .slice A na ca, .slice B nb cb,
      .func (.func 64) #[] #[.pointer (some ⟨w.heap.size + 1, 0, none⟩), .pointer (some ⟨w.heap.size + 1 + 1, 0, none⟩)], .int .u64 (x.1.1 : Int), .int .u64 (x.1.2 : Int), undef, undef, undef, undef, undef, undef, undef], defers := [] }) ?assign ?body ?done ?stop
  case assign =>
    intro l x W K hK
    gi_wp2
    exact hK
  case body =>
    rintro l pre x W ⟨⟨hO, hA, hB⟩, hW⟩ _
    have hc := hO.cell
    have hf := hO.frozen
    by_cases h0 : cmpN x.1.1 x.1.2 = 0
    · have hd : (cmpN x.1.1 x.1.2 != 0) = false := by simp [h0]
      have H0 := Lib.hid h0
      clear h0
      gi_wp2_with (refine ⟨trivial, ?_⟩; gi_at_call 49; refine (CallsIn.inRound l (callsIn_wide.2 (cmp_any _ _ _))).mono ?_; rintro e w' ⟨rfl, rfl⟩)
      exact ⟨KeepsFrom.refl _ _, KeepB.refl _ _ _ _, ⟨by rw [cmpF_snoc, if_pos H0.out]; exact hO, hA, hB⟩, hW⟩
    · have hd : (cmpN x.1.1 x.1.2 != 0) = true := by simp [h0]
      have H0 := Lib.hid h0
      clear h0
      gi_wp2_with (refine ⟨trivial, ?_⟩; gi_at_call 49; refine (CallsIn.inRound l (callsIn_wide.2 (cmp_any _ _ _))).mono ?_; rintro e w' ⟨rfl, rfl⟩)
      have hA2 := hA.other (B' := w.heap.size) (by omega) (.int .i64 (cmpN x.1.1 x.1.2))
      have hB2 := hB.other (B' := w.heap.size) (by omega) (.int .i64 (cmpN x.1.1 x.1.2))
      exact ⟨(KeepsOthers.setCell _ _ _).from _, ⟨(Below.refl w.heap.size W).setCell (p := ⟨w.heap.size, 0, none⟩) (Nat.le_refl _) _, hA2.cell.trans hA.cell.symm, hB2.cell.trans hB.cell.symm⟩,
        ⟨by rw [cmpF_snoc, if_neg H0.out]; exact hO.set _, hA2, hB2⟩, hW.setCell (p := ⟨w.heap.size, 0, none⟩) (Nat.le_refl _) _⟩
  case done =>
    rintro D zs W hD rfl ⟨⟨hO, _, _⟩, hW⟩ hK
    have hc := hO.cell
    gi_wp2
    refine ⟨by simp, .inl ⟨_, _, rfl, run_takeDeferred hK, ?_⟩⟩
    refine ⟨_, results_tmp rfl _ _ _, ?_, hW.trans (belowK_b (w := w) (Nat.le_refl _) W D _ _ (by simp at hD; omega) hK rfl rfl)⟩
    rw [← av_upto xs ys hx hy (max xs.length ys.length) (by omega), ← bv_upto xs ys hx hy (max xs.length ys.length) (by omega), ← cmpF_total]
    rfl
  case stop =>
    rintro D c pre W _ _ h _
    exact h.elim

end Go.Proofs.Ytmbdidompjgaaaa
