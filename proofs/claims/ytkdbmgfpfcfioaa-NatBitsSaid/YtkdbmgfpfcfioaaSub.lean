/- nat.Sub answers the limbs of the difference and true, or nil and false where it would be below 0; memory below is left as it was. Conditions: both slices read as limbs; lengths below 2^40. -/
import Derived.Test.YtkdbmgfpfcfioaaAdd
namespace Go.Proofs.Ytkdbmgfpfcfioaa
open Go.RowKit Go.Shelf Num
set_option linter.unusedVariables false
attribute [local go_sem] Oper.semAt_some

set_option maxRecDepth 100000 in
set_option maxHeartbeats 4000000 in
theorem sub_yes_lt (A B : Option Addr) (ca cb : Nat) (xs ys : List Nat) (w : World) (hLa : Lim w.heap.size w (.slice A xs.length ca) xs) (hLb : Lim w.heap.size w (.slice B ys.length cb) ys) (hlx : xs.length ≤ 1099511627776) (hly : ys.length ≤ 1099511627776) (hlg : xs.length < ys.length) (hle : val ys ≤ val xs) :
    CallsIn Fence.wide 5 Try.prog 10 #[.slice A xs.length ca, .slice B ys.length cb] w fun e W' => ∃ v, e = .returned (.tuple #[v, .bool true]) ∧ Lim W'.heap.size W' v (limbs (val xs - val ys)) ∧ Below w.heap.size w W' := by
  have hx := hLa.ok
  have hy := hLb.ok
  obtain ⟨i0, hi, hz0, hz1, hz2⟩ := info_parts infoU
  have hmx : max xs.length ys.length = ys.length := by omega
  have HMX := Lib.hid hmx
  have HLE := Lib.hid hle
  have hlB : ys.length ≤ 1099511627776 := by omega
  clear hmx hle
  refine callsIn_of_wp_marks Try.func10 rfl trivial ?_ rfl
  simp only [Try.ntmps10, List.size_toArray, List.length_cons, List.length_nil, Nat.reduceAdd, Nat.reduceSub, Array.replicate_succ, Array.replicate_zero, List.push_toArray, List.append_toArray, List.nil_append, List.cons_append]
  gi_wp2_with (first
    | (gi_at_make; refine wpListIn_make_own _ rfl _ _ 22 rfl w.heap.size 35 i0 (.int .u64 0) 1 Try.underlying22 hi hz0 hz1 _ _ _ (ys.length) rfl rfl (by omega) (by rw [hz2]; omega) (by unfold maxLen; omega) (by simp) ?_; intro w0 hown0 hgrow0)
    | (refine ⟨trivial, ?_⟩; gi_at_call 25; refine (side_in _ _ _ _ _ _ _ _).mono ?_; rintro e w' ⟨rfl, rfl⟩))
  have hrow0 : (w0.heap.size > w.heap.size) := by
    have := (hown0.lt (w.heap.size) (by simp [Value.ownBlock])).2
    omega
  have hB00 : Below w.heap.size w w0 := (Below.refl _ w).grown hgrow0 (by simp) (fun k e => by cases e)
  have bS := Boxed.new w0 22 (.slice (some ⟨w.heap.size, 0, none⟩) 0 ys.length)
  have bC := Boxed.new (w0.alloc (.cells #[.slice (some ⟨w.heap.size, 0, none⟩) 0 ys.length] 22)) 35 (.int .u64 0)
  rw [World.size_alloc] at bC
  have bA := Boxed.new ((w0.alloc (.cells #[.slice (some ⟨w.heap.size, 0, none⟩) 0 ys.length] 22)).alloc (.cells #[.int .u64 0] 35)) 22 (.slice A xs.length ca)
  rw [World.size_alloc, World.size_alloc] at bA
  have bB := Boxed.new (((w0.alloc (.cells #[.slice (some ⟨w.heap.size, 0, none⟩) 0 ys.length] 22)).alloc (.cells #[.int .u64 0] 35)).alloc (.cells #[.slice A xs.length ca] 22)) 22 (.slice B ys.length cb)
  rw [World.size_alloc, World.size_alloc, World.size_alloc] at bB
  have bS' := ((bS.alloc (.cells #[.int .u64 0] 35)).alloc (.cells #[.slice A xs.length ca] 22)).alloc (.cells #[.slice B ys.length cb] 22)
  have bC' := (bC.alloc (.cells #[.slice A xs.length ca] 22)).alloc (.cells #[.slice B ys.length cb] 22)
  have bA' := bA.alloc (.cells #[.slice B ys.length cb] 22)
  have hown1 := (((hown0.alloc (.cells #[.slice (some ⟨w.heap.size, 0, none⟩) 0 ys.length] 22)).alloc (.cells #[.int .u64 0] 35)).alloc (.cells #[.slice A xs.length ca] 22)).alloc (.cells #[.slice B ys.length cb] 22)
  have hB0 : Below w.heap.size w ((((w0.alloc (.cells #[.slice (some ⟨w.heap.size, 0, none⟩) 0 ys.length] 22)).alloc (.cells #[.int .u64 0] 35)).alloc (.cells #[.slice A xs.length ca] 22)).alloc (.cells #[.slice B ys.length cb] 22)) := (((hB00.alloc hB00.size _).alloc (by simp; omega) _).alloc (by simp; omega) _).alloc (by simp; omega) _
  refine wpIn_rangeFunc_ownG rfl (by omega) (gf := 34) (lb := #[.pointer (some ⟨w0.heap.size + 1 + 1, 0, none⟩), .pointer (some ⟨w0.heap.size + 1 + 1 + 1, 0, none⟩)]) rfl trivial (enters_of Try.func34 (by kernel_rfl) rfl)
    (side_stops (5 - 1) (by omega) (w0.heap.size + 1 + 1) (w0.heap.size + 1 + 1 + 1) w.heap.size A B xs.length ys.length ca cb xs ys hx hy hlx hly _ hB0.size (by simp) (by simp) (hLa.below hB0) (hLb.below hB0) bA'.cell bB.cell)
    KeepB.trans (keepB_b hB0.size (by simp) (by simp)) (Below.refl _ _) (fun _ => rfl)
    (fun pre W => Acc w.heap.size w.heap.size w0.heap.size (w0.heap.size + 1) (w0.heap.size + 1 + 1) (w0.heap.size + 1 + 1 + 1) (ys.length) (.slice A xs.length ca) (.slice B ys.length cb) w (subF pre).1 (subF pre).2 W)
    (fun _ _ _ => False)
    (acc_own _ _ _ _ _ _ _ _ _ w (fun pre => (subF pre).1) (fun pre => (subF pre).2) _ (Nat.le_refl _) hB0.size)
    (fun _ _ _ _ _ hs _ _ => hs)
    ⟨⟨_, bS', hown1, rfl⟩, bC', bA', bB, hB0⟩
    (fun x => { tmps := #[.slice A xs.length ca, .slice B ys.length cb, undef, undef, .slice none 0 0, .bool false, .pointer (some ⟨w0.heap.size, 0, none⟩), .pointer (some ⟨w0.heap.size + 1, 0, none⟩), .int .u64 (x.1.1 : Int), .int .u64 (x.1.2 : Int), undef,
      .slice A xs.length ca, .int .i64 (xs.length : Int), .slice B ys.length cb, .int .i64 (ys.length : Int), .int .i64 (ys.length : Int), .slice (some ⟨w.heap.size, 0, none⟩) 0 ys.length, .slice A xs.length ca, .slice B ys.length cb,
      .func (.func 34) #[] #[.pointer (some ⟨w0.heap.size + 1 + 1, 0, none⟩), .pointer (some ⟨w0.heap.size + 1 + 1 + 1, 0, none⟩)], .int .u64 (x.1.1 : Int), .int .u64 (x.1.2 : Int),
      undef, undef, undef, undef, undef, undef, undef, undef, undef, undef, undef, undef, undef, undef, undef, undef, undef], defers := [] }) ?assign ?body ?done ?stop
  case assign =>
    intro l x W K hK
    gi_wp2
    exact hK
  case body =>
    rintro l pre x W hA hlt
    rw [HMX.out] at hlt
    obtain ⟨i1, i2, i3, i4⟩ := subF_inv pre
    obtain ⟨⟨v, bs, row, rfl⟩, bc, ba, bb, hW⟩ := id hA
    have hc1 := bc.cell
    have hf1 := bc.frozen
    have hs1 := (bs.other (B' := w0.heap.size + 1) (by omega) (.int .u64 ((subHi x.1.1 x.1.2 (subF pre).2 : Nat) : Int))).cell
    have hF30 : Fence.wide.fn 26 := trivial
    have hsub := sub64 x.1.1 x.1.2 (subF pre).2 i1
    have row1 : (W.setCell ⟨w0.heap.size + 1, 0, none⟩ (.int .u64 ((subHi x.1.1 x.1.2 (subF pre).2 : Nat) : Int))).ownsRow w.heap.size 35 1 (.slice (some ⟨w.heap.size, 0, none⟩) (subF pre).1.length (ys.length)) (subF pre).1.length (Us (subF pre).1) :=
      row.kept (grownBy_setCell' W _ _) (.inr (fun e => by simp [Value.ownBlock] at e; omega))
    have hl2 : (subF pre).1.length < ys.length := by omega
    have I2 := Lib.hid i2
    have I4 := Lib.hid i4
    clear i2 i4 row
    gi_wp2_with (gi_at_builtin; refine wpListIn_append_fits _ rfl _ _ 22 rfl w.heap.size 35 i0 1 Try.underlying22 hi hz1 w.heap.size (subF pre).1.length (ys.length) _ rfl (row1.alloc _) ⟨W.heap.size, 0, none⟩ 1 1 [.int .u64 ((subLo x.1.1 x.1.2 (subF pre).2 : Nat) : Int)] rfl rfl (one_new_set _ _ _ _ _) (by simp [Value.oneCell']) (by omega) ?_; intro w1 hown' hgrow; obtain ⟨hv1, hA1, hk1, hkb⟩ := acc_step hA (by omega) (by omega) (by omega) (by omega) (by omega) (by omega) (by omega) (by omega) (by omega) (by omega) (by omega) (by omega) (Nat.le_refl _) hown' hgrow; have hc2 := hv1.cell; have hf2 := hv1.frozen)
    exact ⟨hk1.from _, hkb, by show Acc _ _ _ _ _ _ _ _ _ _ _ _ _; rw [subF_snoc]; exact hA1⟩
  case done =>
    rintro D zs W hD rfl hA hK
    obtain ⟨i1, i2, i3, i4⟩ := subF_inv (upto (pairAt xs ys hx hy) (max xs.length ys.length))
    have hbo := subF_borrow (upto (pairAt xs ys hx hy) (max xs.length ys.length))
    have ht := subF_total (upto (pairAt xs ys hx hy) (max xs.length ys.length))
    rw [upto_length, HMX.out] at i2
    rw [HMX.out] at ht i1 i3 hA hbo
    rw [av_upto xs ys hx hy _ (by omega), bv_upto xs ys hx hy _ (by omega)] at ht hbo
    generalize hL : (subF (upto (pairAt xs ys hx hy) (ys.length))).1 = L at *
    generalize hC : (subF (upto (pairAt xs ys hx hy) (ys.length))).2 = C at *
    have hle := HLE.out
    rw [if_neg (by omega)] at hbo
    subst hbo
    have HT := Lib.hid (ht hle)
    have hll : L.length ≤ ys.length := by omega
    clear ht i2 i4 hL hC hle
    obtain ⟨⟨v, bs, row, rfl⟩, bc, ba, bb, hW⟩ := hA
    have hc1 : W.cell? ⟨w0.heap.size + 1, 0, none⟩ = some (.int .u64 0) := bc.cell
    have hs1 := bs.cell
    have hLim := Lim.of_own row i3 (Nat.le_refl _)
    have hh := hgt_le L
    have hhB : hgt L ≤ ys.length := by omega
    have hhI : ((hgt L : Nat) : Int) ≤ (ys.length : Int) := by omega
    have hd3 : decide (((hgt L : Nat) : Int) < 0) = false := by simp
    have hF27 : Fence.wide.fn 27 := trivial
    clear bs bc ba bb
    gi_wp2
    gi_quiet ((gi_at_call 27; refine (callsIn_wide.2 (height_any _ _ L _ (hLim.drewN _) (by omega))).mono ?_; rintro e w' ⟨rfl, rfl⟩; exact ⟨rfl, _, rfl⟩))
    gi_wp2
    refine ⟨by simp, .inl ⟨_, _, rfl, run_takeDeferred (w := W.drewN nq) hK, ?_⟩⟩
    refine ⟨_, results_tmp2 rfl _ _ _, _, rfl, ?_, (below_drewNs hW nq).trans (belowK_b (w := w) (Nat.le_refl _) (W.drewN nq) D _ _ (by simp at hD; omega) hK rfl rfl)⟩
    rw [HT.out, ← trim_take]
    exact Lim.take (Lim.of_own (ownsRow_putObj (own_drewNs row nq) _ hK rfl) i3 (Nat.le_refl _)) _ (hgt_le _)
  case stop =>
    rintro D c pre W _ _ h _
    exact h.elim

set_option maxRecDepth 100000 in
set_option maxHeartbeats 4000000 in
theorem sub_yes_ge (A B : Option Addr) (ca cb : Nat) (xs ys : List Nat) (w : World) (hLa : Lim w.heap.size w (.slice A xs.length ca) xs) (hLb : Lim w.heap.size w (.slice B ys.length cb) ys) (hlx : xs.length ≤ 1099511627776) (hly : ys.length ≤ 1099511627776) (hlg : ys.length ≤ xs.length) (hle : val ys ≤ val xs) :
    CallsIn Fence.wide 5 Try.prog 10 #[.slice A xs.length ca, .slice B ys.length cb] w fun e W' => ∃ v, e = .returned (.tuple #[v, .bool true]) ∧ Lim W'.heap.size W' v (limbs (val xs - val ys)) ∧ Below w.heap.size w W' := by
  have hx := hLa.ok
  have hy := hLb.ok
  obtain ⟨i0, hi, hz0, hz1, hz2⟩ := info_parts infoU
  have hmx : max xs.length ys.length = xs.length := by omega
  have HMX := Lib.hid hmx
  have HLE := Lib.hid hle
  have hlB : xs.length ≤ 1099511627776 := by omega
  clear hmx hle
  refine callsIn_of_wp_marks Try.func10 rfl trivial ?_ rfl
  simp only [Try.ntmps10, List.size_toArray, List.length_cons, List.length_nil, Nat.reduceAdd, Nat.reduceSub, Array.replicate_succ, Array.replicate_zero, List.push_toArray, List.append_toArray, List.nil_append, List.cons_append]
  gi_wp2_with (first
    | (gi_at_make; refine wpListIn_make_own _ rfl _ _ 22 rfl w.heap.size 35 i0 (.int .u64 0) 1 Try.underlying22 hi hz0 hz1 _ _ _ (xs.length) rfl rfl (by omega) (by rw [hz2]; omega) (by unfold maxLen; omega) (by simp) ?_; intro w0 hown0 hgrow0)
    | (refine ⟨trivial, ?_⟩; gi_at_call 25; refine (side_in _ _ _ _ _ _ _ _).mono ?_; rintro e w' ⟨rfl, rfl⟩))
  have hrow0 : (w0.heap.size > w.heap.size) := by
    have := (hown0.lt (w.heap.size) (by simp [Value.ownBlock])).2
    omega
  have hB00 : Below w.heap.size w w0 := (Below.refl _ w).grown hgrow0 (by simp) (fun k e => by cases e)
  have bS := Boxed.new w0 22 (.slice (some ⟨w.heap.size, 0, none⟩) 0 xs.length)
  have bC := Boxed.new (w0.alloc (.cells #[.slice (some ⟨w.heap.size, 0, none⟩) 0 xs.length] 22)) 35 (.int .u64 0)
  rw [World.size_alloc] at bC
  have bA := Boxed.new ((w0.alloc (.cells #[.slice (some ⟨w.heap.size, 0, none⟩) 0 xs.length] 22)).alloc (.cells #[.int .u64 0] 35)) 22 (.slice A xs.length ca)
  rw [World.size_alloc, World.size_alloc] at bA
  have bB := Boxed.new (((w0.alloc (.cells #[.slice (some ⟨w.heap.size, 0, none⟩) 0 xs.length] 22)).alloc (.cells #[.int .u64 0] 35)).alloc (.cells #[.slice A xs.length ca] 22)) 22 (.slice B ys.length cb)
  rw [World.size_alloc, World.size_alloc, World.size_alloc] at bB
  have bS' := ((bS.alloc (.cells #[.int .u64 0] 35)).alloc (.cells #[.slice A xs.length ca] 22)).alloc (.cells #[.slice B ys.length cb] 22)
  have bC' := (bC.alloc (.cells #[.slice A xs.length ca] 22)).alloc (.cells #[.slice B ys.length cb] 22)
  have bA' := bA.alloc (.cells #[.slice B ys.length cb] 22)
  have hown1 := (((hown0.alloc (.cells #[.slice (some ⟨w.heap.size, 0, none⟩) 0 xs.length] 22)).alloc (.cells #[.int .u64 0] 35)).alloc (.cells #[.slice A xs.length ca] 22)).alloc (.cells #[.slice B ys.length cb] 22)
  have hB0 : Below w.heap.size w ((((w0.alloc (.cells #[.slice (some ⟨w.heap.size, 0, none⟩) 0 xs.length] 22)).alloc (.cells #[.int .u64 0] 35)).alloc (.cells #[.slice A xs.length ca] 22)).alloc (.cells #[.slice B ys.length cb] 22)) := (((hB00.alloc hB00.size _).alloc (by simp; omega) _).alloc (by simp; omega) _).alloc (by simp; omega) _
  refine wpIn_rangeFunc_ownG rfl (by omega) (gf := 34) (lb := #[.pointer (some ⟨w0.heap.size + 1 + 1, 0, none⟩), .pointer (some ⟨w0.heap.size + 1 + 1 + 1, 0, none⟩)]) rfl trivial (enters_of Try.func34 (by kernel_rfl) rfl)
    (side_stops (5 - 1) (by omega) (w0.heap.size + 1 + 1) (w0.heap.size + 1 + 1 + 1) w.heap.size A B xs.length ys.length ca cb xs ys hx hy hlx hly _ hB0.size (by simp) (by simp) (hLa.below hB0) (hLb.below hB0) bA'.cell bB.cell)
    KeepB.trans (keepB_b hB0.size (by simp) (by simp)) (Below.refl _ _) (fun _ => rfl)
    (fun pre W => Acc w.heap.size w.heap.size w0.heap.size (w0.heap.size + 1) (w0.heap.size + 1 + 1) (w0.heap.size + 1 + 1 + 1) (xs.length) (.slice A xs.length ca) (.slice B ys.length cb) w (subF pre).1 (subF pre).2 W)
    (fun _ _ _ => False)
    (acc_own _ _ _ _ _ _ _ _ _ w (fun pre => (subF pre).1) (fun pre => (subF pre).2) _ (Nat.le_refl _) hB0.size)
    (fun _ _ _ _ _ hs _ _ => hs)
    ⟨⟨_, bS', hown1, rfl⟩, bC', bA', bB, hB0⟩
    (fun x => { tmps := #[.slice A xs.length ca, .slice B ys.length cb, undef, undef, .slice none 0 0, .bool false, .pointer (some ⟨w0.heap.size, 0, none⟩), .pointer (some ⟨w0.heap.size + 1, 0, none⟩), .int .u64 (x.1.1 : Int), .int .u64 (x.1.2 : Int), undef,
      .slice A xs.length ca, .int .i64 (xs.length : Int), .slice B ys.length cb, .int .i64 (ys.length : Int), .int .i64 (xs.length : Int), .slice (some ⟨w.heap.size, 0, none⟩) 0 xs.length, .slice A xs.length ca, .slice B ys.length cb,
      .func (.func 34) #[] #[.pointer (some ⟨w0.heap.size + 1 + 1, 0, none⟩), .pointer (some ⟨w0.heap.size + 1 + 1 + 1, 0, none⟩)], .int .u64 (x.1.1 : Int), .int .u64 (x.1.2 : Int),
      undef, undef, undef, undef, undef, undef, undef, undef, undef, undef, undef, undef, undef, undef, undef, undef, undef], defers := [] }) ?assign ?body ?done ?stop
  case assign =>
    intro l x W K hK
    gi_wp2
    exact hK
  case body =>
    rintro l pre x W hA hlt
    rw [HMX.out] at hlt
    obtain ⟨i1, i2, i3, i4⟩ := subF_inv pre
    obtain ⟨⟨v, bs, row, rfl⟩, bc, ba, bb, hW⟩ := id hA
    have hc1 := bc.cell
    have hf1 := bc.frozen
    have hs1 := (bs.other (B' := w0.heap.size + 1) (by omega) (.int .u64 ((subHi x.1.1 x.1.2 (subF pre).2 : Nat) : Int))).cell
    have hF30 : Fence.wide.fn 26 := trivial
    have hsub := sub64 x.1.1 x.1.2 (subF pre).2 i1
    have row1 : (W.setCell ⟨w0.heap.size + 1, 0, none⟩ (.int .u64 ((subHi x.1.1 x.1.2 (subF pre).2 : Nat) : Int))).ownsRow w.heap.size 35 1 (.slice (some ⟨w.heap.size, 0, none⟩) (subF pre).1.length (xs.length)) (subF pre).1.length (Us (subF pre).1) :=
      row.kept (grownBy_setCell' W _ _) (.inr (fun e => by simp [Value.ownBlock] at e; omega))
    have hl2 : (subF pre).1.length < xs.length := by omega
    have I2 := Lib.hid i2
    have I4 := Lib.hid i4
    clear i2 i4 row
    gi_wp2_with (gi_at_builtin; refine wpListIn_append_fits _ rfl _ _ 22 rfl w.heap.size 35 i0 1 Try.underlying22 hi hz1 w.heap.size (subF pre).1.length (xs.length) _ rfl (row1.alloc _) ⟨W.heap.size, 0, none⟩ 1 1 [.int .u64 ((subLo x.1.1 x.1.2 (subF pre).2 : Nat) : Int)] rfl rfl (one_new_set _ _ _ _ _) (by simp [Value.oneCell']) (by omega) ?_; intro w1 hown' hgrow; obtain ⟨hv1, hA1, hk1, hkb⟩ := acc_step hA (by omega) (by omega) (by omega) (by omega) (by omega) (by omega) (by omega) (by omega) (by omega) (by omega) (by omega) (by omega) (Nat.le_refl _) hown' hgrow; have hc2 := hv1.cell; have hf2 := hv1.frozen)
    exact ⟨hk1.from _, hkb, by show Acc _ _ _ _ _ _ _ _ _ _ _ _ _; rw [subF_snoc]; exact hA1⟩
  case done =>
    rintro D zs W hD rfl hA hK
    obtain ⟨i1, i2, i3, i4⟩ := subF_inv (upto (pairAt xs ys hx hy) (max xs.length ys.length))
    have hbo := subF_borrow (upto (pairAt xs ys hx hy) (max xs.length ys.length))
    have ht := subF_total (upto (pairAt xs ys hx hy) (max xs.length ys.length))
    rw [upto_length, HMX.out] at i2
    rw [HMX.out] at ht i1 i3 hA hbo
    rw [av_upto xs ys hx hy _ (by omega), bv_upto xs ys hx hy _ (by omega)] at ht hbo
    generalize hL : (subF (upto (pairAt xs ys hx hy) (xs.length))).1 = L at *
    generalize hC : (subF (upto (pairAt xs ys hx hy) (xs.length))).2 = C at *
    have hle := HLE.out
    rw [if_neg (by omega)] at hbo
    subst hbo
    have HT := Lib.hid (ht hle)
    have hll : L.length ≤ xs.length := by omega
    clear ht i2 i4 hL hC hle
    obtain ⟨⟨v, bs, row, rfl⟩, bc, ba, bb, hW⟩ := hA
    have hc1 : W.cell? ⟨w0.heap.size + 1, 0, none⟩ = some (.int .u64 0) := bc.cell
    have hs1 := bs.cell
    have hLim := Lim.of_own row i3 (Nat.le_refl _)
    have hh := hgt_le L
    have hhB : hgt L ≤ xs.length := by omega
    have hhI : ((hgt L : Nat) : Int) ≤ (xs.length : Int) := by omega
    have hd3 : decide (((hgt L : Nat) : Int) < 0) = false := by simp
    have hF27 : Fence.wide.fn 27 := trivial
    clear bs bc ba bb
    gi_wp2
    gi_quiet ((gi_at_call 27; refine (callsIn_wide.2 (height_any _ _ L _ (hLim.drewN _) (by omega))).mono ?_; rintro e w' ⟨rfl, rfl⟩; exact ⟨rfl, _, rfl⟩))
    gi_wp2
    refine ⟨by simp, .inl ⟨_, _, rfl, run_takeDeferred (w := W.drewN nq) hK, ?_⟩⟩
    refine ⟨_, results_tmp2 rfl _ _ _, _, rfl, ?_, (below_drewNs hW nq).trans (belowK_b (w := w) (Nat.le_refl _) (W.drewN nq) D _ _ (by simp at hD; omega) hK rfl rfl)⟩
    rw [HT.out, ← trim_take]
    exact Lim.take (Lim.of_own (ownsRow_putObj (own_drewNs row nq) _ hK rfl) i3 (Nat.le_refl _)) _ (hgt_le _)
  case stop =>
    rintro D c pre W _ _ h _
    exact h.elim

set_option maxRecDepth 100000 in
set_option maxHeartbeats 4000000 in
theorem sub_no_lt (A B : Option Addr) (ca cb : Nat) (xs ys : List Nat) (w : World) (hLa : Lim w.heap.size w (.slice A xs.length ca) xs) (hLb : Lim w.heap.size w (.slice B ys.length cb) ys) (hlx : xs.length ≤ 1099511627776) (hly : ys.length ≤ 1099511627776) (hlg : xs.length < ys.length) (hle : val xs < val ys) :
    CallsIn Fence.wide 5 Try.prog 10 #[.slice A xs.length ca, .slice B ys.length cb] w fun e W' => e = .returned (.tuple #[.slice none 0 0, .bool false]) ∧ Below w.heap.size w W' := by
  have hx := hLa.ok
  have hy := hLb.ok
  obtain ⟨i0, hi, hz0, hz1, hz2⟩ := info_parts infoU
  have hmx : max xs.length ys.length = ys.length := by omega
  have HMX := Lib.hid hmx
  have HLE := Lib.hid hle
  have hlB : ys.length ≤ 1099511627776 := by omega
  clear hmx hle
  refine callsIn_of_wp_marks Try.func10 rfl trivial ?_ rfl
  simp only [Try.ntmps10, List.size_toArray, List.length_cons, List.length_nil, Nat.reduceAdd, Nat.reduceSub, Array.replicate_succ, Array.replicate_zero, List.push_toArray, List.append_toArray, List.nil_append, List.cons_append]
  gi_wp2_with (first
    | (gi_at_make; refine wpListIn_make_own _ rfl _ _ 22 rfl w.heap.size 35 i0 (.int .u64 0) 1 Try.underlying22 hi hz0 hz1 _ _ _ (ys.length) rfl rfl (by omega) (by rw [hz2]; omega) (by unfold maxLen; omega) (by simp) ?_; intro w0 hown0 hgrow0)
    | (refine ⟨trivial, ?_⟩; gi_at_call 25; refine (side_in _ _ _ _ _ _ _ _).mono ?_; rintro e w' ⟨rfl, rfl⟩))
  have hrow0 : (w0.heap.size > w.heap.size) := by
    have := (hown0.lt (w.heap.size) (by simp [Value.ownBlock])).2
    omega
  have hB00 : Below w.heap.size w w0 := (Below.refl _ w).grown hgrow0 (by simp) (fun k e => by cases e)
  have bS := Boxed.new w0 22 (.slice (some ⟨w.heap.size, 0, none⟩) 0 ys.length)
  have bC := Boxed.new (w0.alloc (.cells #[.slice (some ⟨w.heap.size, 0, none⟩) 0 ys.length] 22)) 35 (.int .u64 0)
  rw [World.size_alloc] at bC
  have bA := Boxed.new ((w0.alloc (.cells #[.slice (some ⟨w.heap.size, 0, none⟩) 0 ys.length] 22)).alloc (.cells #[.int .u64 0] 35)) 22 (.slice A xs.length ca)
  rw [World.size_alloc, World.size_alloc] at bA
  have bB := Boxed.new (((w0.alloc (.cells #[.slice (some ⟨w.heap.size, 0, none⟩) 0 ys.length] 22)).alloc (.cells #[.int .u64 0] 35)).alloc (.cells #[.slice A xs.length ca] 22)) 22 (.slice B ys.length cb)
  rw [World.size_alloc, World.size_alloc, World.size_alloc] at bB
  have bS' := ((bS.alloc (.cells #[.int .u64 0] 35)).alloc (.cells #[.slice A xs.length ca] 22)).alloc (.cells #[.slice B ys.length cb] 22)
  have bC' := (bC.alloc (.cells #[.slice A xs.length ca] 22)).alloc (.cells #[.slice B ys.length cb] 22)
  have bA' := bA.alloc (.cells #[.slice B ys.length cb] 22)
  have hown1 := (((hown0.alloc (.cells #[.slice (some ⟨w.heap.size, 0, none⟩) 0 ys.length] 22)).alloc (.cells #[.int .u64 0] 35)).alloc (.cells #[.slice A xs.length ca] 22)).alloc (.cells #[.slice B ys.length cb] 22)
  have hB0 : Below w.heap.size w ((((w0.alloc (.cells #[.slice (some ⟨w.heap.size, 0, none⟩) 0 ys.length] 22)).alloc (.cells #[.int .u64 0] 35)).alloc (.cells #[.slice A xs.length ca] 22)).alloc (.cells #[.slice B ys.length cb] 22)) := (((hB00.alloc hB00.size _).alloc (by simp; omega) _).alloc (by simp; omega) _).alloc (by simp; omega) _
  refine wpIn_rangeFunc_ownG rfl (by omega) (gf := 34) (lb := #[.pointer (some ⟨w0.heap.size + 1 + 1, 0, none⟩), .pointer (some ⟨w0.heap.size + 1 + 1 + 1, 0, none⟩)]) rfl trivial (enters_of Try.func34 (by kernel_rfl) rfl)
    (side_stops (5 - 1) (by omega) (w0.heap.size + 1 + 1) (w0.heap.size + 1 + 1 + 1) w.heap.size A B xs.length ys.length ca cb xs ys hx hy hlx hly _ hB0.size (by simp) (by simp) (hLa.below hB0) (hLb.below hB0) bA'.cell bB.cell)
    KeepB.trans (keepB_b hB0.size (by simp) (by simp)) (Below.refl _ _) (fun _ => rfl)
    (fun pre W => Acc w.heap.size w.heap.size w0.heap.size (w0.heap.size + 1) (w0.heap.size + 1 + 1) (w0.heap.size + 1 + 1 + 1) (ys.length) (.slice A xs.length ca) (.slice B ys.length cb) w (subF pre).1 (subF pre).2 W)
    (fun _ _ _ => False)
    (acc_own _ _ _ _ _ _ _ _ _ w (fun pre => (subF pre).1) (fun pre => (subF pre).2) _ (Nat.le_refl _) hB0.size)
    (fun _ _ _ _ _ hs _ _ => hs)
    ⟨⟨_, bS', hown1, rfl⟩, bC', bA', bB, hB0⟩
    (fun x => { tmps := #[.slice A xs.length ca, .slice B ys.length cb, undef, undef, .slice none 0 0, .bool false, .pointer (some ⟨w0.heap.size, 0, none⟩), .pointer (some ⟨w0.heap.size + 1, 0, none⟩), .int .u64 (x.1.1 : Int), .int .u64 (x.1.2 : Int), undef,
      .slice A xs.length ca, .int .i64 (xs.length : Int), .slice B ys.length cb, .int .i64 (ys.length : Int), .int .i64 (ys.length : Int), .slice (some ⟨w.heap.size, 0, none⟩) 0 ys.length, .slice A xs.length ca, .slice B ys.length cb,
      .func (.func 34) #[] #[.pointer (some ⟨w0.heap.size + 1 + 1, 0, none⟩), .pointer (some ⟨w0.heap.size + 1 + 1 + 1, 0, none⟩)], .int .u64 (x.1.1 : Int), .int .u64 (x.1.2 : Int),
      undef, undef, undef, undef, undef, undef, undef, undef, undef, undef, undef, undef, undef, undef, undef, undef, undef], defers := [] }) ?assign ?body ?done ?stop
  case assign =>
    intro l x W K hK
    gi_wp2
    exact hK
  case body =>
    rintro l pre x W hA hlt
    rw [HMX.out] at hlt
    obtain ⟨i1, i2, i3, i4⟩ := subF_inv pre
    obtain ⟨⟨v, bs, row, rfl⟩, bc, ba, bb, hW⟩ := id hA
    have hc1 := bc.cell
    have hf1 := bc.frozen
    have hs1 := (bs.other (B' := w0.heap.size + 1) (by omega) (.int .u64 ((subHi x.1.1 x.1.2 (subF pre).2 : Nat) : Int))).cell
    have hF30 : Fence.wide.fn 26 := trivial
    have hsub := sub64 x.1.1 x.1.2 (subF pre).2 i1
    have row1 : (W.setCell ⟨w0.heap.size + 1, 0, none⟩ (.int .u64 ((subHi x.1.1 x.1.2 (subF pre).2 : Nat) : Int))).ownsRow w.heap.size 35 1 (.slice (some ⟨w.heap.size, 0, none⟩) (subF pre).1.length (ys.length)) (subF pre).1.length (Us (subF pre).1) :=
      row.kept (grownBy_setCell' W _ _) (.inr (fun e => by simp [Value.ownBlock] at e; omega))
    have hl2 : (subF pre).1.length < ys.length := by omega
    have I2 := Lib.hid i2
    have I4 := Lib.hid i4
    clear i2 i4 row
    gi_wp2_with (gi_at_builtin; refine wpListIn_append_fits _ rfl _ _ 22 rfl w.heap.size 35 i0 1 Try.underlying22 hi hz1 w.heap.size (subF pre).1.length (ys.length) _ rfl (row1.alloc _) ⟨W.heap.size, 0, none⟩ 1 1 [.int .u64 ((subLo x.1.1 x.1.2 (subF pre).2 : Nat) : Int)] rfl rfl (one_new_set _ _ _ _ _) (by simp [Value.oneCell']) (by omega) ?_; intro w1 hown' hgrow; obtain ⟨hv1, hA1, hk1, hkb⟩ := acc_step hA (by omega) (by omega) (by omega) (by omega) (by omega) (by omega) (by omega) (by omega) (by omega) (by omega) (by omega) (by omega) (Nat.le_refl _) hown' hgrow; have hc2 := hv1.cell; have hf2 := hv1.frozen)
    exact ⟨hk1.from _, hkb, by show Acc _ _ _ _ _ _ _ _ _ _ _ _ _; rw [subF_snoc]; exact hA1⟩
  case done =>
    rintro D zs W hD rfl hA hK
    obtain ⟨i1, i2, i3, i4⟩ := subF_inv (upto (pairAt xs ys hx hy) (max xs.length ys.length))
    have hbo := subF_borrow (upto (pairAt xs ys hx hy) (max xs.length ys.length))
    have ht := subF_total (upto (pairAt xs ys hx hy) (max xs.length ys.length))
    rw [upto_length, HMX.out] at i2
    rw [HMX.out] at ht i1 i3 hA hbo
    rw [av_upto xs ys hx hy _ (by omega), bv_upto xs ys hx hy _ (by omega)] at ht hbo
    generalize hL : (subF (upto (pairAt xs ys hx hy) (ys.length))).1 = L at *
    generalize hC : (subF (upto (pairAt xs ys hx hy) (ys.length))).2 = C at *
    have hle := HLE.out
    rw [if_pos (by omega)] at hbo
    subst hbo
    clear ht i2 i4 hL hC hle
    obtain ⟨⟨v, bs, row, rfl⟩, bc, ba, bb, hW⟩ := hA
    have hc1 : W.cell? ⟨w0.heap.size + 1, 0, none⟩ = some (.int .u64 1) := bc.cell
    clear bs bc ba bb
    gi_wp2
    refine ⟨by simp, .inl ⟨_, _, rfl, run_takeDeferred (w := W) hK, ?_⟩⟩
    exact ⟨_, results_tmp2 rfl _ _ _, rfl, hW.trans (belowK_b (w := w) (Nat.le_refl _) W D _ _ (by simp at hD; omega) hK rfl rfl)⟩
  case stop =>
    rintro D c pre W _ _ h _
    exact h.elim

set_option maxRecDepth 100000 in
set_option maxHeartbeats 4000000 in
theorem sub_no_ge (A B : Option Addr) (ca cb : Nat) (xs ys : List Nat) (w : World) (hLa : Lim w.heap.size w (.slice A xs.length ca) xs) (hLb : Lim w.heap.size w (.slice B ys.length cb) ys) (hlx : xs.length ≤ 1099511627776) (hly : ys.length ≤ 1099511627776) (hlg : ys.length ≤ xs.length) (hle : val xs < val ys) :
    CallsIn Fence.wide 5 Try.prog 10 #[.slice A xs.length ca, .slice B ys.length cb] w fun e W' => e = .returned (.tuple #[.slice none 0 0, .bool false]) ∧ Below w.heap.size w W' := by
  have hx := hLa.ok
  have hy := hLb.ok
  obtain ⟨i0, hi, hz0, hz1, hz2⟩ := info_parts infoU
  have hmx : max xs.length ys.length = xs.length := by omega
  have HMX := Lib.hid hmx
  have HLE := Lib.hid hle
  have hlB : xs.length ≤ 1099511627776 := by omega
  clear hmx hle
  refine callsIn_of_wp_marks Try.func10 rfl trivial ?_ rfl
  simp only [Try.ntmps10, List.size_toArray, List.length_cons, List.length_nil, Nat.reduceAdd, Nat.reduceSub, Array.replicate_succ, Array.replicate_zero, List.push_toArray, List.append_toArray, List.nil_append, List.cons_append]
  gi_wp2_with (first
    | (gi_at_make; refine wpListIn_make_own _ rfl _ _ 22 rfl w.heap.size 35 i0 (.int .u64 0) 1 Try.underlying22 hi hz0 hz1 _ _ _ (xs.length) rfl rfl (by omega) (by rw [hz2]; omega) (by unfold maxLen; omega) (by simp) ?_; intro w0 hown0 hgrow0)
    | (refine ⟨trivial, ?_⟩; gi_at_call 25; refine (side_in _ _ _ _ _ _ _ _).mono ?_; rintro e w' ⟨rfl, rfl⟩))
  have hrow0 : (w0.heap.size > w.heap.size) := by
    have := (hown0.lt (w.heap.size) (by simp [Value.ownBlock])).2
    omega
  have hB00 : Below w.heap.size w w0 := (Below.refl _ w).grown hgrow0 (by simp) (fun k e => by cases e)
  have bS := Boxed.new w0 22 (.slice (some ⟨w.heap.size, 0, none⟩) 0 xs.length)
  have bC := Boxed.new (w0.alloc (.cells #[.slice (some ⟨w.heap.size, 0, none⟩) 0 xs.length] 22)) 35 (.int .u64 0)
  rw [World.size_alloc] at bC
  have bA := Boxed.new ((w0.alloc (.cells #[.slice (some ⟨w.heap.size, 0, none⟩) 0 xs.length] 22)).alloc (.cells #[.int .u64 0] 35)) 22 (.slice A xs.length ca)
  rw [World.size_alloc, World.size_alloc] at bA
  have bB := Boxed.new (((w0.alloc (.cells #[.slice (some ⟨w.heap.size, 0, none⟩) 0 xs.length] 22)).alloc (.cells #[.int .u64 0] 35)).alloc (.cells #[.slice A xs.length ca] 22)) 22 (.slice B ys.length cb)
  rw [World.size_alloc, World.size_alloc, World.size_alloc] at bB
  have bS' := ((bS.alloc (.cells #[.int .u64 0] 35)).alloc (.cells #[.slice A xs.length ca] 22)).alloc (.cells #[.slice B ys.length cb] 22)
  have bC' := (bC.alloc (.cells #[.slice A xs.length ca] 22)).alloc (.cells #[.slice B ys.length cb] 22)
  have bA' := bA.alloc (.cells #[.slice B ys.length cb] 22)
  have hown1 := (((hown0.alloc (.cells #[.slice (some ⟨w.heap.size, 0, none⟩) 0 xs.length] 22)).alloc (.cells #[.int .u64 0] 35)).alloc (.cells #[.slice A xs.length ca] 22)).alloc (.cells #[.slice B ys.length cb] 22)
  have hB0 : Below w.heap.size w ((((w0.alloc (.cells #[.slice (some ⟨w.heap.size, 0, none⟩) 0 xs.length] 22)).alloc (.cells #[.int .u64 0] 35)).alloc (.cells #[.slice A xs.length ca] 22)).alloc (.cells #[.slice B ys.length cb] 22)) := (((hB00.alloc hB00.size _).alloc (by simp; omega) _).alloc (by simp; omega) _).alloc (by simp; omega) _
  refine wpIn_rangeFunc_ownG rfl (by omega) (gf := 34) (lb := #[.pointer (some ⟨w0.heap.size + 1 + 1, 0, none⟩), .pointer (some ⟨w0.heap.size + 1 + 1 + 1, 0, none⟩)]) rfl trivial (enters_of Try.func34 (by kernel_rfl) rfl)
    (side_stops (5 - 1) (by omega) (w0.heap.size + 1 + 1) (w0.heap.size + 1 + 1 + 1) w.heap.size A B xs.length ys.length ca cb xs ys hx hy hlx hly _ hB0.size (by simp) (by simp) (hLa.below hB0) (hLb.below hB0) bA'.cell bB.cell)
    KeepB.trans (keepB_b hB0.size (by simp) (by simp)) (Below.refl _ _) (fun _ => rfl)
    (fun pre W => Acc w.heap.size w.heap.size w0.heap.size (w0.heap.size + 1) (w0.heap.size + 1 + 1) (w0.heap.size + 1 + 1 + 1) (xs.length) (.slice A xs.length ca) (.slice B ys.length cb) w (subF pre).1 (subF pre).2 W)
    (fun _ _ _ => False)
    (acc_own _ _ _ _ _ _ _ _ _ w (fun pre => (subF pre).1) (fun pre => (subF pre).2) _ (Nat.le_refl _) hB0.size)
    (fun _ _ _ _ _ hs _ _ => hs)
    ⟨⟨_, bS', hown1, rfl⟩, bC', bA', bB, hB0⟩
    (fun x => { tmps := #[.slice A xs.length ca, .slice B ys.length cb, undef, undef, .slice none 0 0, .bool false, .pointer (some ⟨w0.heap.size, 0, none⟩), .pointer (some ⟨w0.heap.size + 1, 0, none⟩), .int .u64 (x.1.1 : Int), .int .u64 (x.1.2 : Int), undef,
      .slice A xs.length ca, .int .i64 (xs.length : Int), .slice B ys.length cb, .int .i64 (ys.length : Int), .int .i64 (xs.length : Int), .slice (some ⟨w.heap.size, 0, none⟩) 0 xs.length, .slice A xs.length ca, .slice B ys.length cb,
      .func (.func 34) #[] #[.pointer (some ⟨w0.heap.size + 1 + 1, 0, none⟩), .pointer (some ⟨w0.heap.size + 1 + 1 + 1, 0, none⟩)], .int .u64 (x.1.1 : Int), .int .u64 (x.1.2 : Int),
      undef, undef, undef, undef, undef, undef, undef, undef, undef, undef, undef, undef, undef, undef, undef, undef, undef], defers := [] }) ?assign ?body ?done ?stop
  case assign =>
    intro l x W K hK
    gi_wp2
    exact hK
  case body =>
    rintro l pre x W hA hlt
    rw [HMX.out] at hlt
    obtain ⟨i1, i2, i3, i4⟩ := subF_inv pre
    obtain ⟨⟨v, bs, row, rfl⟩, bc, ba, bb, hW⟩ := id hA
    have hc1 := bc.cell
    have hf1 := bc.frozen
    have hs1 := (bs.other (B' := w0.heap.size + 1) (by omega) (.int .u64 ((subHi x.1.1 x.1.2 (subF pre).2 : Nat) : Int))).cell
    have hF30 : Fence.wide.fn 26 := trivial
    have hsub := sub64 x.1.1 x.1.2 (subF pre).2 i1
    have row1 : (W.setCell ⟨w0.heap.size + 1, 0, none⟩ (.int .u64 ((subHi x.1.1 x.1.2 (subF pre).2 : Nat) : Int))).ownsRow w.heap.size 35 1 (.slice (some ⟨w.heap.size, 0, none⟩) (subF pre).1.length (xs.length)) (subF pre).1.length (Us (subF pre).1) :=
      row.kept (grownBy_setCell' W _ _) (.inr (fun e => by simp [Value.ownBlock] at e; omega))
    have hl2 : (subF pre).1.length < xs.length := by omega
    have I2 := Lib.hid i2
    have I4 := Lib.hid i4
    clear i2 i4 row
    gi_wp2_with (gi_at_builtin; refine wpListIn_append_fits _ rfl _ _ 22 rfl w.heap.size 35 i0 1 Try.underlying22 hi hz1 w.heap.size (subF pre).1.length (xs.length) _ rfl (row1.alloc _) ⟨W.heap.size, 0, none⟩ 1 1 [.int .u64 ((subLo x.1.1 x.1.2 (subF pre).2 : Nat) : Int)] rfl rfl (one_new_set _ _ _ _ _) (by simp [Value.oneCell']) (by omega) ?_; intro w1 hown' hgrow; obtain ⟨hv1, hA1, hk1, hkb⟩ := acc_step hA (by omega) (by omega) (by omega) (by omega) (by omega) (by omega) (by omega) (by omega) (by omega) (by omega) (by omega) (by omega) (Nat.le_refl _) hown' hgrow; have hc2 := hv1.cell; have hf2 := hv1.frozen)
    exact ⟨hk1.from _, hkb, by show Acc _ _ _ _ _ _ _ _ _ _ _ _ _; rw [subF_snoc]; exact hA1⟩
  case done =>
    rintro D zs W hD rfl hA hK
    obtain ⟨i1, i2, i3, i4⟩ := subF_inv (upto (pairAt xs ys hx hy) (max xs.length ys.length))
    have hbo := subF_borrow (upto (pairAt xs ys hx hy) (max xs.length ys.length))
    have ht := subF_total (upto (pairAt xs ys hx hy) (max xs.length ys.length))
    rw [upto_length, HMX.out] at i2
    rw [HMX.out] at ht i1 i3 hA hbo
    rw [av_upto xs ys hx hy _ (by omega), bv_upto xs ys hx hy _ (by omega)] at ht hbo
    generalize hL : (subF (upto (pairAt xs ys hx hy) (xs.length))).1 = L at *
    generalize hC : (subF (upto (pairAt xs ys hx hy) (xs.length))).2 = C at *
    have hle := HLE.out
    rw [if_pos (by omega)] at hbo
    subst hbo
    clear ht i2 i4 hL hC hle
    obtain ⟨⟨v, bs, row, rfl⟩, bc, ba, bb, hW⟩ := hA
    have hc1 : W.cell? ⟨w0.heap.size + 1, 0, none⟩ = some (.int .u64 1) := bc.cell
    clear bs bc ba bb
    gi_wp2
    refine ⟨by simp, .inl ⟨_, _, rfl, run_takeDeferred (w := W) hK, ?_⟩⟩
    exact ⟨_, results_tmp2 rfl _ _ _, rfl, hW.trans (belowK_b (w := w) (Nat.le_refl _) W D _ _ (by simp at hD; omega) hK rfl rfl)⟩
  case stop =>
    rintro D c pre W _ _ h _
    exact h.elim

end Go.Proofs.Ytkdbmgfpfcfioaa
