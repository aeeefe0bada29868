/- nat.addCarry answers the limbs of the sum of both numbers and the carry, nat.Sub those of the difference, or that there is none; memory below is left as it was. Conditions: both slices read as limbs; lengths below 2^40; the carry is 0 or 1. -/
import Derived.Test.YtkdbmgfpfcfioaaIter
import Derived.Sort.QuietIn
namespace Go.Proofs.Ytkdbmgfpfcfioaa
open Go.RowKit Go.Shelf Num
set_option linter.unusedVariables false
attribute [local go_sem] Oper.semAt_some

/-- What a round of addCarry, or of Sub, finds: the row that is gathered in the box Bs, the carry in Bc, the iterator's two boxes; and nothing below n₁ has turned. -/
def Acc (n₁ g Bs Bc Ba Bb cap : Nat) (va vb : Value) (w : World) (l : List Nat) (c : Nat) (W : World) : Prop :=
  (∃ v, Boxed W Bs 22 v ∧ W.ownsRow n₁ 35 1 v l.length (Us l) ∧ v = .slice (some ⟨g, 0, none⟩) l.length cap) ∧ Boxed W Bc 35 (.int .u64 (c : Int)) ∧ Boxed W Ba 22 va ∧ Boxed W Bb 22 vb ∧ Below n₁ w W

theorem one_new_set (W : World) (p : Addr) (u y : Value) (t : TypeId) : ∀ j v, [y][j]? = some v → ((W.setCell p u).alloc (.cells #[y] t)).cell? ((⟨W.heap.size, 0, none⟩ : Addr).add j) = some v := by
  have h := cell_one_new (W.setCell p u) y t
  simpa using h

theorem acc_own {β : Type} (n₁ g Bs Bc Ba Bb cap : Nat) (va vb : Value) (w : World) (l : β → List Nat) (c : β → Nat) (B : Nat) (hn : n₁ ≤ w.heap.size) (hB : n₁ ≤ B) :
    OwnFrom B (fun s W => Acc n₁ g Bs Bc Ba Bb cap va vb w (l s) (c s) W) := by
  have h1 := Own.from (holdsRow_own n₁ Bs 22 35 1 (fun s : β => (l s).length) (fun s => Us (l s)) (fun s v => v = .slice (some ⟨g, 0, none⟩) (l s).length cap)) B
  exact OwnFrom.and h1 (OwnFrom.and (Own.from (boxed_own Bc 35 (fun s => .int .u64 (c s : Int))) B) (OwnFrom.and (Own.from (boxed_own Ba 22 (fun _ => va)) B) (OwnFrom.and (Own.from (boxed_own Bb 22 (fun _ => vb)) B) (ownFrom_below hn hB))))

theorem acc_step {n₁ g Bs Bc Ba Bb cap : Nat} {va vb : Value} {w W w1 : World} {l : List Nat} {c c' x : Nat} {tmp : Obj} (h : Acc n₁ g Bs Bc Ba Bb cap va vb w l c W)
    (hg : n₁ ≤ g) (hs : n₁ ≤ Bs) (hc : n₁ ≤ Bc) (d1 : g ≠ Bs) (d2 : g ≠ Bc) (d3 : g ≠ Ba) (d4 : g ≠ Bb) (d5 : Bs ≠ Bc) (d6 : Ba ≠ Bc) (d7 : Bb ≠ Bc) (d8 : Ba ≠ Bs) (d9 : Bb ≠ Bs) (hn : n₁ ≤ w.heap.size)
    (hown' : w1.ownsRow n₁ 35 1 (.slice (some ⟨g, 0, none⟩) (l.length + 1) cap) (l.length + 1) (Us l ++ [.int .u64 (x : Int)]))
    (hgrow : ((W.setCell ⟨Bc, 0, none⟩ (.int .u64 (c' : Int))).alloc tmp).grownBy w1 (some g)) :
    Boxed w1 Bs 22 (.slice (some ⟨g, 0, none⟩) l.length cap) ∧ Acc n₁ g Bs Bc Ba Bb cap va vb w (l ++ [x]) c' (w1.setCell ⟨Bs, 0, none⟩ (.slice (some ⟨g, 0, none⟩) (l.length + 1) cap)) ∧
      KeepsOthers W (w1.setCell ⟨Bs, 0, none⟩ (.slice (some ⟨g, 0, none⟩) (l.length + 1) cap)) ∧ KeepB n₁ Ba Bb W (w1.setCell ⟨Bs, 0, none⟩ (.slice (some ⟨g, 0, none⟩) (l.length + 1) cap)) := by
  obtain ⟨⟨v, bs, row, rfl⟩, bc, ba, bb, hW⟩ := h
  have ne : ∀ X, g ≠ X → some X ≠ some g := fun X h e => h (by injection e with e; exact e.symm)
  have bs1 := ((bs.other d5 (.int .u64 (c' : Int))).alloc tmp).kept hgrow (ne _ d1)
  have bc1 := ((bc.set (.int .u64 (c' : Int))).alloc tmp).kept hgrow (ne _ d2)
  have ba1 := ((ba.other d6 (.int .u64 (c' : Int))).alloc tmp).kept hgrow (ne _ d3)
  have bb1 := ((bb.other d7 (.int .u64 (c' : Int))).alloc tmp).kept hgrow (ne _ d4)
  have row1 : (W.setCell ⟨Bc, 0, none⟩ (.int .u64 (c' : Int))).ownsRow n₁ 35 1 (.slice (some ⟨g, 0, none⟩) l.length cap) l.length (Us l) :=
    row.kept (grownBy_setCell' W Bc _) (.inr (fun e => d2 (by simpa [Value.ownBlock] using e)))
  have hb : Below n₁ W (w1.setCell ⟨Bs, 0, none⟩ (.slice (some ⟨g, 0, none⟩) (l.length + 1) cap)) :=
    ((((Below.refl n₁ W).setCell (p := ⟨Bc, 0, none⟩) hc _).alloc (by have := hW.size; simp; omega) tmp).grown hgrow (by have := hW.size; simp; omega) (fun k e => by cases e; exact hg)).setCell (p := ⟨Bs, 0, none⟩) hs _
  have ba2 := ba1.other d8 (.slice (some ⟨g, 0, none⟩) (l.length + 1) cap)
  have bb2 := bb1.other d9 (.slice (some ⟨g, 0, none⟩) (l.length + 1) cap)
  refine ⟨bs1, ⟨⟨_, bs1.set _, ?_, by simp⟩, bc1.other (fun e => d5 e.symm) _, ba2, bb2, hW.trans hb⟩, ?_, hb, ba2.cell.trans ba.cell.symm, bb2.cell.trans bb.cell.symm⟩
  · rw [List.length_append, Us_append]
    exact hown'.kept (grownBy_setCell' w1 Bs _) (.inr (fun e => d1 (by simpa [Value.ownBlock] using e)))
  · refine (((KeepsOthers.setCell W _ _).trans (KeepsOthers.alloc _ tmp)).trans (KeepsOthers.of_grownBy hgrow fun j o ej hj => ?_)).trans (KeepsOthers.setCell _ _ _)
    rcases (row1.alloc tmp).2 with ⟨h0, _⟩ | ⟨g', cap', cur, h0, _, hgb, _⟩
    · cases h0
    · injection h0 with h0
      injection h0 with h0
      injection h0 with h0
      subst h0
      cases ej
      rw [hgb] at hj; cases hj; rfl

set_option maxRecDepth 100000 in
set_option maxHeartbeats 4000000 in
theorem addCarry_lt (A B : Option Addr) (ca cb c : Nat) (xs ys : List Nat) (w : World) (hLa : Lim w.heap.size w (.slice A xs.length ca) xs) (hLb : Lim w.heap.size w (.slice B ys.length cb) ys) (hlx : xs.length ≤ 1099511627776) (hly : ys.length ≤ 1099511627776) (hc : c ≤ 1) (hlg : xs.length < ys.length) :
    CallsIn Fence.wide 5 Try.prog 29 #[.slice A xs.length ca, .slice B ys.length cb, .int .u64 (c : Int)] w fun e W' => ∃ v, e = .returned v ∧ Lim W'.heap.size W' v (limbs (val xs + val ys + c)) ∧ Below w.heap.size w W' := by
  have hx := hLa.ok
  have hy := hLb.ok
  obtain ⟨i0, hi, hz0, hz1, hz2⟩ := info_parts infoU
  have hmx : max xs.length ys.length = ys.length := by omega
  have HMX := Lib.hid hmx
  have hlB : ys.length ≤ 1099511627776 := by omega
  clear hmx
  refine callsIn_of_wp_marks Try.func29 rfl trivial ?_ rfl
  simp only [Try.ntmps29, List.size_toArray, List.length_cons, List.length_nil, Nat.reduceAdd, Nat.reduceSub, Array.replicate_succ, Array.replicate_zero, List.push_toArray, List.append_toArray, List.nil_append, List.cons_append]
  gi_wp2_with (first
    | (gi_at_make; refine wpListIn_make_own _ rfl _ _ 22 rfl w.heap.size 35 i0 (.int .u64 0) 1 Try.underlying22 hi hz0 hz1 _ _ _ (ys.length + 1) rfl rfl (by omega) (by rw [hz2]; omega) (by unfold maxLen; omega) (by simp) ?_; intro w0 hown0 hgrow0)
    | (refine ⟨trivial, ?_⟩; gi_at_call 25; refine (side_in _ _ _ _ _ _ _ _).mono ?_; rintro e w' ⟨rfl, rfl⟩))
  have hrow0 : (w0.heap.size > w.heap.size + 1) := by
    have := (hown0.lt (w.heap.size + 1) (by simp [Value.ownBlock])).2
    omega
  have hB00 : Below w.heap.size w w0 := ((Below.refl _ w).alloc (Nat.le_refl _) _).grown hgrow0 (by simp) (fun k e => by cases e)
  have bC0 : Boxed w0 w.heap.size 35 (.int .u64 (c : Int)) := (Boxed.new w 35 (.int .u64 (c : Int))).kept hgrow0 (by simp)
  have bS := Boxed.new w0 22 (.slice (some ⟨w.heap.size + 1, 0, none⟩) 0 (ys.length + 1))
  have bA := Boxed.new (w0.alloc (.cells #[.slice (some ⟨w.heap.size + 1, 0, none⟩) 0 (ys.length + 1)] 22)) 22 (.slice A xs.length ca)
  rw [World.size_alloc] at bA
  have bB := Boxed.new ((w0.alloc (.cells #[.slice (some ⟨w.heap.size + 1, 0, none⟩) 0 (ys.length + 1)] 22)).alloc (.cells #[.slice A xs.length ca] 22)) 22 (.slice B ys.length cb)
  rw [World.size_alloc, World.size_alloc] at bB
  have bS' := (bS.alloc (.cells #[.slice A xs.length ca] 22)).alloc (.cells #[.slice B ys.length cb] 22)
  have bC' := ((bC0.alloc (.cells #[.slice (some ⟨w.heap.size + 1, 0, none⟩) 0 (ys.length + 1)] 22)).alloc (.cells #[.slice A xs.length ca] 22)).alloc (.cells #[.slice B ys.length cb] 22)
  have bA' := bA.alloc (.cells #[.slice B ys.length cb] 22)
  have hown1 := ((hown0.alloc (.cells #[.slice (some ⟨w.heap.size + 1, 0, none⟩) 0 (ys.length + 1)] 22)).alloc (.cells #[.slice A xs.length ca] 22)).alloc (.cells #[.slice B ys.length cb] 22)
  rw [World.size_alloc] at hown1
  have hB0 : Below w.heap.size w (((w0.alloc (.cells #[.slice (some ⟨w.heap.size + 1, 0, none⟩) 0 (ys.length + 1)] 22)).alloc (.cells #[.slice A xs.length ca] 22)).alloc (.cells #[.slice B ys.length cb] 22)) :=
    ((hB00.alloc hB00.size _).alloc (by simp; omega) _).alloc (by simp; omega) _
  refine wpIn_rangeFunc_ownG rfl (by omega) (gf := 34) (lb := #[.pointer (some ⟨w0.heap.size + 1, 0, none⟩), .pointer (some ⟨w0.heap.size + 1 + 1, 0, none⟩)]) rfl trivial (enters_of Try.func34 (by kernel_rfl) rfl)
    (side_stops (5 - 1) (by omega) (w0.heap.size + 1) (w0.heap.size + 1 + 1) w.heap.size A B xs.length ys.length ca cb xs ys hx hy hlx hly _ hB0.size (by simp) (by simp) (hLa.below hB0) (hLb.below hB0) bA'.cell bB.cell)
    KeepB.trans (keepB_b hB0.size (by simp) (by simp)) (Below.refl _ _) (fun _ => rfl)
    (fun pre W => Acc w.heap.size (w.heap.size + 1) w0.heap.size w.heap.size (w0.heap.size + 1) (w0.heap.size + 1 + 1) (ys.length + 1) (.slice A xs.length ca) (.slice B ys.length cb) w (addF c pre).1 (addF c pre).2 W)
    (fun _ _ _ => False)
    (acc_own _ _ _ _ _ _ _ _ _ w (fun pre => (addF c pre).1) (fun pre => (addF c pre).2) _ (Nat.le_refl _) hB0.size)
    (fun _ _ _ _ _ hs _ _ => hs)
    ⟨⟨_, bS', hown1, rfl⟩, bC', bA', bB, hB0⟩
    (fun x => { tmps := #[.slice A xs.length ca, .slice B ys.length cb, .int .u64 (c : Int), undef, undef, .pointer (some ⟨w.heap.size, 0, none⟩), .slice none 0 0, .pointer (some ⟨w0.heap.size, 0, none⟩), .int .u64 (x.1.1 : Int), .int .u64 (x.1.2 : Int), undef,
      .slice A xs.length ca, .int .i64 (xs.length : Int), .slice B ys.length cb, .int .i64 (ys.length : Int), .int .i64 (ys.length : Int), .int .i64 ((ys.length : Int) + 1), .slice (some ⟨w.heap.size + 1, 0, none⟩) 0 (ys.length + 1), .slice A xs.length ca, .slice B ys.length cb,
      .func (.func 34) #[] #[.pointer (some ⟨w0.heap.size + 1, 0, none⟩), .pointer (some ⟨w0.heap.size + 1 + 1, 0, none⟩)], .int .u64 (x.1.1 : Int), .int .u64 (x.1.2 : Int),
      undef, undef, undef, undef, undef, undef, undef, undef, undef, undef, undef, undef, undef, undef, undef, undef, undef, undef, undef], defers := [] }) ?assign ?body ?done ?stop
  case assign =>
    intro l x W K hK
    gi_wp2
    exact hK
  case body =>
    rintro l pre x W hA hlt
    rw [HMX.out] at hlt
    obtain ⟨i1, i2, i3, i4⟩ := addF_inv hc pre
    obtain ⟨⟨v, bs, row, rfl⟩, bc, ba, bb, hW⟩ := id hA
    have hc1 := bc.cell
    have hf1 := bc.frozen
    have hs1 := (bs.other (B' := w.heap.size) (by omega) (.int .u64 ((addHi x.1.1 x.1.2 (addF c pre).2 : Nat) : Int))).cell
    have hF30 : Fence.wide.fn 30 := trivial
    have hadd := add64 x.1.1 x.1.2 (addF c pre).2 i1
    have row1 : (W.setCell ⟨w.heap.size, 0, none⟩ (.int .u64 ((addHi x.1.1 x.1.2 (addF c pre).2 : Nat) : Int))).ownsRow w.heap.size 35 1 (.slice (some ⟨w.heap.size + 1, 0, none⟩) (addF c pre).1.length (ys.length + 1)) (addF c pre).1.length (Us (addF c pre).1) :=
      row.kept (grownBy_setCell' W _ _) (.inr (fun e => by simp [Value.ownBlock] at e))
    have hl2 : (addF c pre).1.length < ys.length := by omega
    have I2 := Lib.hid i2
    have I4 := Lib.hid i4
    clear i2 i4 row
    gi_wp2_with (gi_at_builtin; go_loud (refine wpListIn_append_fits _ rfl _ _ 22 rfl w.heap.size 35 i0 1 Try.underlying22 hi hz1 (w.heap.size + 1) (addF c pre).1.length (ys.length + 1) _ rfl (row1.alloc _) ⟨W.heap.size, 0, none⟩ 1 1 [.int .u64 ((addLo x.1.1 x.1.2 (addF c pre).2 : Nat) : Int)] rfl rfl (one_new_set _ _ _ _ _) (by simp [Value.oneCell']) (by omega) ?_; intro w1 hown' hgrow; obtain ⟨hv1, hA1, hk1, hkb⟩ := acc_step hA (by omega) (by omega) (by omega) (by omega) (by omega) (by omega) (by omega) (by omega) (by omega) (by omega) (by omega) (by omega) (Nat.le_refl _) hown' hgrow; have hc2 := hv1.cell; have hf2 := hv1.frozen))
    exact ⟨hk1.from _, hkb, by show Acc _ _ _ _ _ _ _ _ _ _ _ _ _; rw [addF_snoc]; exact hA1⟩
  case done =>
    rintro D zs W hD rfl hA hK
    obtain ⟨i1, i2, i3, i4⟩ := addF_inv hc (upto (pairAt xs ys hx hy) (max xs.length ys.length))
    have ht := addF_total hc (upto (pairAt xs ys hx hy) (max xs.length ys.length))
    rw [upto_length, HMX.out] at i2
    rw [HMX.out] at ht i1 i3 hA
    rw [av_upto xs ys hx hy _ (by omega), bv_upto xs ys hx hy _ (by omega)] at ht
    generalize hL : (addF c (upto (pairAt xs ys hx hy) (ys.length))).1 = L at *
    generalize hC : (addF c (upto (pairAt xs ys hx hy) (ys.length))).2 = C at *
    have HT := Lib.hid ht
    have I2 := Lib.hid i2
    have hll : L.length ≤ ys.length := by omega
    have hlm : C < M := Nat.lt_of_le_of_lt i1 (by decide)
    clear ht i2 i4 hL hC
    obtain ⟨⟨v, bs, row, rfl⟩, bc, ba, bb, hW⟩ := hA
    have hc1 := bc.cell
    have hs1 := bs.cell
    gi_wp2_with (gi_at_builtin; go_loud (refine wpListIn_append_fits _ rfl _ _ 22 rfl w.heap.size 35 i0 1 Try.underlying22 hi hz1 (w.heap.size + 1) L.length (ys.length + 1) _ rfl (row.alloc _) ⟨W.heap.size, 0, none⟩ 1 1 [.int .u64 (C : Int)] rfl rfl (cell_one_new _ _ _) (by simp [Value.oneCell']) (by omega) ?_; intro w1 hown' hgrow; obtain ⟨hv1, hv2, hr2, hk2, hb2⟩ := bs.appended (by decide) row hW.size (by omega) hown' hgrow; have hc2 := hv1.cell; have hf2 := hv1.frozen))
    have hO := ok_append i3 (ok_one hlm)
    have hlen : (L ++ [C]).length = L.length + 1 := by simp
    have hr3 := hr2
    rw [← Us_one, ← Us_append] at hr3
    have hLim := Lim.of_own hr3 hO (Nat.le_refl _)
    have hK2 := hk2.same D _ hK rfl
    generalize w1.setCell ⟨w0.heap.size, 0, none⟩ (.slice (some ⟨w.heap.size + 1, 0, none⟩) (L.length + 1) (ys.length + 1)) = W2 at *
    have hs3 := hv2.cell
    have hh := hgt_le (L ++ [C])
    rw [hlen] at hh
    have hhB : hgt (L ++ [C]) ≤ ys.length + 1 := by omega
    have hhI : ((hgt (L ++ [C]) : Nat) : Int) ≤ (ys.length : Int) + 1 := by omega
    have hd1 : decide (ys.length + 1 < hgt (L ++ [C])) = false := by simpa using hhB
    have hd2 : decide ((ys.length : Int) + 1 < ((hgt (L ++ [C]) : Nat) : Int)) = false := by simpa using hhI
    have hd3 : decide (((hgt (L ++ [C]) : Nat) : Int) < 0) = false := by simp
    have hd4 : decide (((hgt (L ++ [C]) : Nat) : Int) ≤ (ys.length : Int) + 1) = true := by simpa using hhI
    have hd5 : decide (hgt (L ++ [C]) ≤ ys.length + 1) = true := by simpa using hhB
    have HLEN := Lib.hid hlen
    clear hr2 hown' hgrow hc2 hf2 hlen bs bc ba bb row hc1 hs1
    have hF27 : Fence.wide.fn 27 := trivial
    gi_quiet ((gi_at_call 27; refine (callsIn_wide.2 (height_any _ _ (L ++ [C]) _ (hLim.drewN _) (by rw [HLEN.out]; omega))).mono ?_; rintro e w' ⟨rfl, rfl⟩; exact ⟨rfl, _, rfl⟩))
    all_goals
      gi_wp2
      refine ⟨by simp, .inl ⟨_, _, rfl, run_takeDeferred (w := W2.drewN nq) hK2, ?_⟩⟩
      refine ⟨_, results_tmp rfl _ _ _, _, rfl, ?_, (below_drewNs (hW.trans hb2) nq).trans (belowK_b (w := w) (Nat.le_refl _) (W2.drewN nq) D _ _ (by simp at hD; omega) hK2 rfl rfl)⟩
      rw [HT.out, ← trim_take]
      exact Lim.take (Lim.of_own (ownsRow_putObj (own_drewNs hr3 nq) _ hK2 rfl) hO (Nat.le_refl _)) _ (hgt_le _)
  case stop =>
    rintro D c pre W _ _ h _
    exact h.elim

set_option maxRecDepth 100000 in
set_option maxHeartbeats 4000000 in
theorem addCarry_ge (A B : Option Addr) (ca cb c : Nat) (xs ys : List Nat) (w : World) (hLa : Lim w.heap.size w (.slice A xs.length ca) xs) (hLb : Lim w.heap.size w (.slice B ys.length cb) ys) (hlx : xs.length ≤ 1099511627776) (hly : ys.length ≤ 1099511627776) (hc : c ≤ 1) (hlg : ys.length ≤ xs.length) :
    CallsIn Fence.wide 5 Try.prog 29 #[.slice A xs.length ca, .slice B ys.length cb, .int .u64 (c : Int)] w fun e W' => ∃ v, e = .returned v ∧ Lim W'.heap.size W' v (limbs (val xs + val ys + c)) ∧ Below w.heap.size w W' := by
  have hx := hLa.ok
  have hy := hLb.ok
  obtain ⟨i0, hi, hz0, hz1, hz2⟩ := info_parts infoU
  have hmx : max xs.length ys.length = xs.length := by omega
  have HMX := Lib.hid hmx
  have hlB : xs.length ≤ 1099511627776 := by omega
  clear hmx
  refine callsIn_of_wp_marks Try.func29 rfl trivial ?_ rfl
  simp only [Try.ntmps29, List.size_toArray, List.length_cons, List.length_nil, Nat.reduceAdd, Nat.reduceSub, Array.replicate_succ, Array.replicate_zero, List.push_toArray, List.append_toArray, List.nil_append, List.cons_append]
  gi_wp2_with (first
    | (gi_at_make; refine wpListIn_make_own _ rfl _ _ 22 rfl w.heap.size 35 i0 (.int .u64 0) 1 Try.underlying22 hi hz0 hz1 _ _ _ (xs.length + 1) rfl rfl (by omega) (by rw [hz2]; omega) (by unfold maxLen; omega) (by simp) ?_; intro w0 hown0 hgrow0)
    | (refine ⟨trivial, ?_⟩; gi_at_call 25; refine (side_in _ _ _ _ _ _ _ _).mono ?_; rintro e w' ⟨rfl, rfl⟩))
  have hrow0 : (w0.heap.size > w.heap.size + 1) := by
    have := (hown0.lt (w.heap.size + 1) (by simp [Value.ownBlock])).2
    omega
  have hB00 : Below w.heap.size w w0 := ((Below.refl _ w).alloc (Nat.le_refl _) _).grown hgrow0 (by simp) (fun k e => by cases e)
  have bC0 : Boxed w0 w.heap.size 35 (.int .u64 (c : Int)) := (Boxed.new w 35 (.int .u64 (c : Int))).kept hgrow0 (by simp)
  have bS := Boxed.new w0 22 (.slice (some ⟨w.heap.size + 1, 0, none⟩) 0 (xs.length + 1))
  have bA := Boxed.new (w0.alloc (.cells #[.slice (some ⟨w.heap.size + 1, 0, none⟩) 0 (xs.length + 1)] 22)) 22 (.slice A xs.length ca)
  rw [World.size_alloc] at bA
  have bB := Boxed.new ((w0.alloc (.cells #[.slice (some ⟨w.heap.size + 1, 0, none⟩) 0 (xs.length + 1)] 22)).alloc (.cells #[.slice A xs.length ca] 22)) 22 (.slice B ys.length cb)
  rw [World.size_alloc, World.size_alloc] at bB
  have bS' := (bS.alloc (.cells #[.slice A xs.length ca] 22)).alloc (.cells #[.slice B ys.length cb] 22)
  have bC' := ((bC0.alloc (.cells #[.slice (some ⟨w.heap.size + 1, 0, none⟩) 0 (xs.length + 1)] 22)).alloc (.cells #[.slice A xs.length ca] 22)).alloc (.cells #[.slice B ys.length cb] 22)
  have bA' := bA.alloc (.cells #[.slice B ys.length cb] 22)
  have hown1 := ((hown0.alloc (.cells #[.slice (some ⟨w.heap.size + 1, 0, none⟩) 0 (xs.length + 1)] 22)).alloc (.cells #[.slice A xs.length ca] 22)).alloc (.cells #[.slice B ys.length cb] 22)
  rw [World.size_alloc] at hown1
  have hB0 : Below w.heap.size w (((w0.alloc (.cells #[.slice (some ⟨w.heap.size + 1, 0, none⟩) 0 (xs.length + 1)] 22)).alloc (.cells #[.slice A xs.length ca] 22)).alloc (.cells #[.slice B ys.length cb] 22)) :=
    ((hB00.alloc hB00.size _).alloc (by simp; omega) _).alloc (by simp; omega) _
  refine wpIn_rangeFunc_ownG rfl (by omega) (gf := 34) (lb := #[.pointer (some ⟨w0.heap.size + 1, 0, none⟩), .pointer (some ⟨w0.heap.size + 1 + 1, 0, none⟩)]) rfl trivial (enters_of Try.func34 (by kernel_rfl) rfl)
    (side_stops (5 - 1) (by omega) (w0.heap.size + 1) (w0.heap.size + 1 + 1) w.heap.size A B xs.length ys.length ca cb xs ys hx hy hlx hly _ hB0.size (by simp) (by simp) (hLa.below hB0) (hLb.below hB0) bA'.cell bB.cell)
    KeepB.trans (keepB_b hB0.size (by simp) (by simp)) (Below.refl _ _) (fun _ => rfl)
    (fun pre W => Acc w.heap.size (w.heap.size + 1) w0.heap.size w.heap.size (w0.heap.size + 1) (w0.heap.size + 1 + 1) (xs.length + 1) (.slice A xs.length ca) (.slice B ys.length cb) w (addF c pre).1 (addF c pre).2 W)
    (fun _ _ _ => False)
    (acc_own _ _ _ _ _ _ _ _ _ w (fun pre => (addF c pre).1) (fun pre => (addF c pre).2) _ (Nat.le_refl _) hB0.size)
    (fun _ _ _ _ _ hs _ _ => hs)
    ⟨⟨_, bS', hown1, rfl⟩, bC', bA', bB, hB0⟩
    (fun x => { tmps := #[.slice A xs.length ca, .slice B ys.length cb, .int .u64 (c : Int), undef, undef, .pointer (some ⟨w.heap.size, 0, none⟩), .slice none 0 0, .pointer (some ⟨w0.heap.size, 0, none⟩), .int .u64 (x.1.1 : Int), .int .u64 (x.1.2 : Int), undef,
      .slice A xs.length ca, .int .i64 (xs.length : Int), .slice B ys.length cb, .int .i64 (ys.length : Int), .int .i64 (xs.length : Int), .int .i64 ((xs.length : Int) + 1), .slice (some ⟨w.heap.size + 1, 0, none⟩) 0 (xs.length + 1), .slice A xs.length ca, .slice B ys.length cb,
      .func (.func 34) #[] #[.pointer (some ⟨w0.heap.size + 1, 0, none⟩), .pointer (some ⟨w0.heap.size + 1 + 1, 0, none⟩)], .int .u64 (x.1.1 : Int), .int .u64 (x.1.2 : Int),
      undef, undef, undef, undef, undef, undef, undef, undef, undef, undef, undef, undef, undef, undef, undef, undef, undef, undef, undef], defers := [] }) ?assign ?body ?done ?stop
  case assign =>
    intro l x W K hK
    gi_wp2
    exact hK
  case body =>
    rintro l pre x W hA hlt
    rw [HMX.out] at hlt
    obtain ⟨i1, i2, i3, i4⟩ := addF_inv hc pre
    obtain ⟨⟨v, bs, row, rfl⟩, bc, ba, bb, hW⟩ := id hA
    have hc1 := bc.cell
    have hf1 := bc.frozen
    have hs1 := (bs.other (B' := w.heap.size) (by omega) (.int .u64 ((addHi x.1.1 x.1.2 (addF c pre).2 : Nat) : Int))).cell
    have hF30 : Fence.wide.fn 30 := trivial
    have hadd := add64 x.1.1 x.1.2 (addF c pre).2 i1
    have row1 : (W.setCell ⟨w.heap.size, 0, none⟩ (.int .u64 ((addHi x.1.1 x.1.2 (addF c pre).2 : Nat) : Int))).ownsRow w.heap.size 35 1 (.slice (some ⟨w.heap.size + 1, 0, none⟩) (addF c pre).1.length (xs.length + 1)) (addF c pre).1.length (Us (addF c pre).1) :=
      row.kept (grownBy_setCell' W _ _) (.inr (fun e => by simp [Value.ownBlock] at e))
    have hl2 : (addF c pre).1.length < xs.length := by omega
    have I2 := Lib.hid i2
    have I4 := Lib.hid i4
    clear i2 i4 row
    gi_wp2_with (gi_at_builtin; go_loud (refine wpListIn_append_fits _ rfl _ _ 22 rfl w.heap.size 35 i0 1 Try.underlying22 hi hz1 (w.heap.size + 1) (addF c pre).1.length (xs.length + 1) _ rfl (row1.alloc _) ⟨W.heap.size, 0, none⟩ 1 1 [.int .u64 ((addLo x.1.1 x.1.2 (addF c pre).2 : Nat) : Int)] rfl rfl (one_new_set _ _ _ _ _) (by simp [Value.oneCell']) (by omega) ?_; intro w1 hown' hgrow; obtain ⟨hv1, hA1, hk1, hkb⟩ := acc_step hA (by omega) (by omega) (by omega) (by omega) (by omega) (by omega) (by omega) (by omega) (by omega) (by omega) (by omega) (by omega) (Nat.le_refl _) hown' hgrow; have hc2 := hv1.cell; have hf2 := hv1.frozen))
    exact ⟨hk1.from _, hkb, by show Acc _ _ _ _ _ _ _ _ _ _ _ _ _; rw [addF_snoc]; exact hA1⟩
  case done =>
    rintro D zs W hD rfl hA hK
    obtain ⟨i1, i2, i3, i4⟩ := addF_inv hc (upto (pairAt xs ys hx hy) (max xs.length ys.length))
    have ht := addF_total hc (upto (pairAt xs ys hx hy) (max xs.length ys.length))
    rw [upto_length, HMX.out] at i2
    rw [HMX.out] at ht i1 i3 hA
    rw [av_upto xs ys hx hy _ (by omega), bv_upto xs ys hx hy _ (by omega)] at ht
    generalize hL : (addF c (upto (pairAt xs ys hx hy) (xs.length))).1 = L at *
    generalize hC : (addF c (upto (pairAt xs ys hx hy) (xs.length))).2 = C at *
    have HT := Lib.hid ht
    have I2 := Lib.hid i2
    have hll : L.length ≤ xs.length := by omega
    have hlm : C < M := Nat.lt_of_le_of_lt i1 (by decide)
    clear ht i2 i4 hL hC
    obtain ⟨⟨v, bs, row, rfl⟩, bc, ba, bb, hW⟩ := hA
    have hc1 := bc.cell
    have hs1 := bs.cell
    gi_wp2_with (gi_at_builtin; go_loud (refine wpListIn_append_fits _ rfl _ _ 22 rfl w.heap.size 35 i0 1 Try.underlying22 hi hz1 (w.heap.size + 1) L.length (xs.length + 1) _ rfl (row.alloc _) ⟨W.heap.size, 0, none⟩ 1 1 [.int .u64 (C : Int)] rfl rfl (cell_one_new _ _ _) (by simp [Value.oneCell']) (by omega) ?_; intro w1 hown' hgrow; obtain ⟨hv1, hv2, hr2, hk2, hb2⟩ := bs.appended (by decide) row hW.size (by omega) hown' hgrow; have hc2 := hv1.cell; have hf2 := hv1.frozen))
    have hO := ok_append i3 (ok_one hlm)
    have hlen : (L ++ [C]).length = L.length + 1 := by simp
    have hr3 := hr2
    rw [← Us_one, ← Us_append] at hr3
    have hLim := Lim.of_own hr3 hO (Nat.le_refl _)
    have hK2 := hk2.same D _ hK rfl
    generalize w1.setCell ⟨w0.heap.size, 0, none⟩ (.slice (some ⟨w.heap.size + 1, 0, none⟩) (L.length + 1) (xs.length + 1)) = W2 at *
    have hs3 := hv2.cell
    have hh := hgt_le (L ++ [C])
    rw [hlen] at hh
    have hhB : hgt (L ++ [C]) ≤ xs.length + 1 := by omega
    have hhI : ((hgt (L ++ [C]) : Nat) : Int) ≤ (xs.length : Int) + 1 := by omega
    have hd1 : decide (xs.length + 1 < hgt (L ++ [C])) = false := by simpa using hhB
    have hd2 : decide ((xs.length : Int) + 1 < ((hgt (L ++ [C]) : Nat) : Int)) = false := by simpa using hhI
    have hd3 : decide (((hgt (L ++ [C]) : Nat) : Int) < 0) = false := by simp
    have hd4 : decide (((hgt (L ++ [C]) : Nat) : Int) ≤ (xs.length : Int) + 1) = true := by simpa using hhI
    have hd5 : decide (hgt (L ++ [C]) ≤ xs.length + 1) = true := by simpa using hhB
    have HLEN := Lib.hid hlen
    clear hr2 hown' hgrow hc2 hf2 hlen bs bc ba bb row hc1 hs1
    have hF27 : Fence.wide.fn 27 := trivial
    gi_quiet ((gi_at_call 27; refine (callsIn_wide.2 (height_any _ _ (L ++ [C]) _ (hLim.drewN _) (by rw [HLEN.out]; omega))).mono ?_; rintro e w' ⟨rfl, rfl⟩; exact ⟨rfl, _, rfl⟩))
    all_goals
      gi_wp2
      refine ⟨by simp, .inl ⟨_, _, rfl, run_takeDeferred (w := W2.drewN nq) hK2, ?_⟩⟩
      refine ⟨_, results_tmp rfl _ _ _, _, rfl, ?_, (below_drewNs (hW.trans hb2) nq).trans (belowK_b (w := w) (Nat.le_refl _) (W2.drewN nq) D _ _ (by simp at hD; omega) hK2 rfl rfl)⟩
      rw [HT.out, ← trim_take]
      exact Lim.take (Lim.of_own (ownsRow_putObj (own_drewNs hr3 nq) _ hK2 rfl) hO (Nat.le_refl _)) _ (hgt_le _)
  case stop =>
    rintro D c pre W _ _ h _
    exact h.elim

end Go.Proofs.Ytkdbmgfpfcfioaa
