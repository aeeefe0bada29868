import Derived.Test.YtkmlnglmecjmeaaPruR
import Derived.Test.YtkmlnglmecjmeaaDel
/- Layer 11's calls: what of a tree stays, laid behind spots of one's own; Only and Without. Conditions: the slice reads as a tree's spots, of at most 128; members of at most 1000. -/
namespace Go.Proofs.Ytkmlnglmecjmeaa
open Go Go.RowKit
set_option linter.unusedVariables false

/-- Without all who don't stay. -/
def keepP (p : Int × Int → Bool) : Tr → Option Tr
  | .leaf a b => if p (a, b) then some (Tr.leaf a b) else none
  | .inner _ _ l r => joinO (keepP p l) (keepP p r)
theorem keepP_keep {p : Int × Int → Bool} {K : List (Int × Int)} : ∀ {t : Tr}, (∀ m ∈ lvO (some t), p m = decide (m ∈ K)) → keepP p t = keepT K t
  | .leaf a b, h => by
    have := h (a, b) (by rw [lvO_leaf]; simp)
    show (if p (a, b) = true then some (Tr.leaf a b) else none) = if (a, b) ∈ K then some (Tr.leaf a b) else none
    rw [this]
    simp
  | .inner a b l r, h => by
    rw [lvO_inner] at h
    show joinO (keepP p l) (keepP p r) = joinO (keepT K l) (keepT K r)
    rw [keepP_keep (t := l) fun m hm => h m (List.mem_append_left _ hm), keepP_keep (t := r) fun m hm => h m (List.mem_append_right _ hm)]
theorem keepP_len (p : Int × Int → Bool) : ∀ t : Tr, (spo (keepP p t)).length ≤ (flat t).length
  | .leaf a b => by
    show (spo (if p (a, b) = true then some (Tr.leaf a b) else none)).length ≤ _
    by_cases h : p (a, b) = true
    · rw [if_pos h]; exact Nat.le_refl _
    · rw [if_neg h]; exact Nat.zero_le _
  | .inner a b l r => by
    show (spo (joinO (keepP p l) (keepP p r))).length ≤ (flat (.inner a b l r)).length
    have h1 := len_join (keepP p l) (keepP p r)
    have h2 := keepP_len p l
    have h3 := keepP_len p r
    have h4 : (flat (.inner a b l r)).length = 1 + (flat l).length + (flat r).length := by simp [flat]; omega
    omega
theorem own_slice {w : World} {base : Nat} {v : Value} {n : Nat} {ys : List Value} (h : w.ownsRow base 56 3 v n ys) : ∃ A cap, v = .slice A n cap := by
  rcases h.2 with ⟨hv, h0⟩ | ⟨g, cap, cur, hv, _⟩
  · exact ⟨none, 0, by rw [hv, h0]⟩
  · exact ⟨_, _, hv⟩
/-- A part's first spot is nobody's, where it is no leaf. -/
def okIn : Tr → Prop
  | .leaf _ _ => True
  | .inner a b l r => a = 0 ∧ b = 0 ∧ okIn l ∧ okIn r
theorem okIn_of : ∀ {t : Tr}, (flat t).all noWho = true → okIn t
  | .leaf _ _, _ => trivial
  | .inner a b l r, h => by
    have hw' : (noWho (false, a, b) && ((flat l ++ flat r).all noWho)) = true := h
    rw [List.all_append, Bool.and_eq_true, Bool.and_eq_true] at hw'
    obtain ⟨h0, h1, h2⟩ := hw'
    simp only [noWho, Bool.false_or, Bool.and_eq_true, beq_iff_eq] at h0
    exact ⟨h0.1, h0.2, okIn_of h1, okIn_of h2⟩
/-- Both halves laid behind one another, and the spot above them where both are there. -/
theorem keep_spots (p : Int × Int → Bool) (l r : Tr) : spo (keepP p (.inner 0 0 l r)) = if spo (keepP p l) = [] then spo (keepP p r) else if spo (keepP p r) = [] then spo (keepP p l) else (false, 0, 0) :: (spo (keepP p l) ++ spo (keepP p r)) := spo_join _ _

set_option maxRecDepth 1000000 in
set_option maxHeartbeats 8000000 in
theorem pr_only (p : Int × Int → Bool) (gB base : Nat) (w0 : World) (hB0 : base ≤ w0.heap.size)
    (HK : Hid (∀ (W : World) (a b : Int), Below base w0 W → base ≤ W.heap.size → Calls Try.prog 32 #[vM a b, .pointer (some ⟨gB, 0, none⟩)] W fun e W' => e = .returned (.bool (p (a, b))) ∧ Below W.heap.size W W')) :
    ∀ (t : Tr) (tail ks : List Sp) (kv lv : Value) (w : World), okIn t → Below base w0 w → w.ownsRow base 56 3 kv ks.length (ks.flatMap spC) → Spots base w (flat t ++ tail) [lv] → ks.length + (flat t).length ≤ 1000000 → (flat t ++ tail).length ≤ 1000000 →
    Calls Try.prog 31 #[kv, lv, .func (.func 32) #[] #[.pointer (some ⟨gB, 0, none⟩)]] w fun e W' => ∃ v' l', e = .returned (.tuple #[v', l']) ∧ W'.ownsRow base 56 3 v' (ks ++ spo (keepP p t)).length ((ks ++ spo (keepP p t)).flatMap spC) ∧ Spots base W' tail [l'] ∧ Below base w0 W'
  | .leaf a b, tail, ks, kv, lv, w, hin, B, hown, hl, hn, hm => by
    have HM := Lib.hid hl
    have HO := Lib.hid hown
    obtain ⟨A, cap, rfl, hlc, hcm, hp⟩ := spots_at hl
    have hcm2 : cap ≤ 9223372036854775807 := Nat.le_trans hcm (by decide)
    obtain ⟨A', hrun, hS⟩ := cut_from hl 1 (by simp [flat])
    obtain ⟨g, off, rfl, hgb, hc0, hc1, hc2⟩ := hp 0 (by simp [flat])
    have hrun' : ∀ wx, (Instr.slice 32 (.slice (some ⟨g, off, none⟩) (flat (.leaf a b) ++ tail).length cap) (some (.int .i64 1)) none none).run Try.prog wx = .ok (.slice A' ((flat (.leaf a b) ++ tail).length - 1) (cap - 1)) wx := hrun
    have e1 : (flat (.leaf a b) ++ tail)[0]'(by simp [flat]) = (true, a, b) := rfl
    have e2 : (flat (.leaf a b) ++ tail).drop 1 = tail := rfl
    have hz : (((flat (.leaf a b) ++ tail).length : Int) == 0) = false := beq_eq_false_iff_ne.2 (by simp [flat]; omega)
    have hlp : 0 < (flat (.leaf a b) ++ tail).length := by simp [flat]
    have hks : ks.length ≤ 999999 := by simp [flat] at hn; omega
    rw [e1] at hc0 hc1 hc2
    rw [e2] at hS
    have HS := Lib.hid hS
    clear hl hp hcm hS e1 e2 hrun hown
    generalize (flat (.leaf a b) ++ tail).length = N at *
    have hN : (0 : Int) < (N : Int) := by omega
    simp only [Nat.zero_mul, Nat.add_zero] at hc0 hc1 hc2
    have BA := below_new w (.cells #[.bool false, .int .i64 0, .int .i64 0] 56)
    have hgw : g < w.heap.size := Nat.lt_of_lt_of_le hgb (Nat.le_trans hB0 B.size)
    have hd0 := (BA.cell (p := ⟨g, off, none⟩) hgw).trans hc0
    have hd1 := (BA.cell (p := ⟨g, off + 1, none⟩) hgw).trans hc1
    have hd2 := (BA.cell (p := ⟨g, off + 2, none⟩) hgw).trans hc2
    go_enter Try.func31, Try.ntmps31
    go_wp2_with fail
    go_region
    go_wp2_with fail
    obtain ⟨W0, hW0, b0, B1⟩ : ∃ W0, (w.alloc (.cells #[.bool true, .int .i64 a, .int .i64 b] 56)).drew = W0 ∧ Box W0 w.heap.size [.bool true, .int .i64 a, .int .i64 b] ∧ Below w.heap.size w W0 := ⟨_, rfl, (Box.new w _ _).keep rfl, (below_new _ _).drew⟩
    rw [hW0]
    have hbw : base ≤ w.heap.size := Nat.le_trans hB0 B.size
    have B2 := B.trans (B1.mono hbw)
    have hown0 := owns_below HO.out B1
    have hS0 := keeps_spots _ _ _ _ _ _ HS.out (B1.mono hbw) (Nat.le_refl _)
    clear hW0 HM HO HS hd0 hd1 hd2 hc0 hc1 hc2 BA
    refine (HK.out W0 a b B2 (Nat.le_trans hB0 B2.size)).mono ?_
    rintro e W1 ⟨rfl, hb⟩
    have hbW := Nat.le_trans hB0 B2.size
    replace b0 := b0.next hb
    have hown1 := owns_below hown0 hb
    have HS1 := Lib.hid (keeps_spots _ _ _ _ _ _ hS0 (hb.mono hbW) (Nat.le_refl _))
    have B3 := B2.trans (hb.mono hbW)
    have q0 := b0.c 0 _ rfl
    have q1 := b0.c 1 _ rfl
    have q2 := b0.c 2 _ rfl
    clear hown0 hS0 b0
    cases hpp : p (a, b)
    · have HE : Hid (ks ++ spo (keepP p (.leaf a b)) = ks) := Lib.hid (by show ks ++ spo (if p (a, b) = true then some (Tr.leaf a b) else none) = ks; rw [hpp]; simp [spo])
      clear hpp
      go_wp2
      go_ret2
      exact ⟨_, _, rfl, by rw [HE.out]; exact hown1, HS1.out, B3⟩
    · have HE : Hid (ks ++ spo (keepP p (.leaf a b)) = ks ++ [(true, a, b)]) := Lib.hid (by show ks ++ spo (if p (a, b) = true then some (Tr.leaf a b) else none) = ks ++ [(true, a, b)]; rw [hpp]; rfl)
      clear hpp
      go_wp2_with (at_builtin; refine append_spots _ rfl _ _ rfl base _ _ _ rfl (hown1.alloc _) _ _ _ rfl (one_spot _ (true, a, b) _ _ (by simp)) ?c1 ?c2 ?_)
      case c1 => simp; omega
      case c2 => have := B3.size; simp; omega
      intro v' w' hown' hgr
      have hbx : base ≤ W1.heap.size := Nat.le_trans hB0 B3.size
      have BX := ((Below.refl base W1).alloc hbx (.cells #[.bool true, .int .i64 a, .int .i64 b] 56)).grown hgr (by simp; omega) (fun k hk => (hown1.lt k hk).1)
      have HO2 : Hid (w'.ownsRow base 56 3 v' (ks ++ spo (keepP p (.leaf a b))).length ((ks ++ spo (keepP p (.leaf a b))).flatMap spC)) := Lib.hid (by rw [HE.out]; simpa using hown')
      clear hown' hown1 hgr q0 q1 q2
      go_wp2
      go_ret2
      exact ⟨_, _, rfl, HO2.out, keeps_spots _ _ _ _ _ _ HS1.out BX (Nat.le_refl _), B3.trans BX⟩
  | .inner a b l r, tail, ks, kv, lv, w, hin, B, hown, hl, hn, hm => by
    obtain ⟨rfl, rfl, hil, hir⟩ := hin
    have HO := Lib.hid hown
    obtain ⟨A, cap, rfl, hlc, hcm, hp⟩ := spots_at hl
    have hcm2 : cap ≤ 9223372036854775807 := Nat.le_trans hcm (by decide)
    obtain ⟨A', hrun, hS⟩ := cut_from hl 1 (by simp [flat])
    obtain ⟨g, off, rfl, hgb, hc0, hc1, hc2⟩ := hp 0 (by simp [flat])
    have hrun' : ∀ wx, (Instr.slice 32 (.slice (some ⟨g, off, none⟩) (flat (.inner 0 0 l r) ++ tail).length cap) (some (.int .i64 1)) none none).run Try.prog wx = .ok (.slice A' ((flat (.inner 0 0 l r) ++ tail).length - 1) (cap - 1)) wx := hrun
    have e1 : (flat (.inner 0 0 l r) ++ tail)[0]'(by simp [flat]) = (false, 0, 0) := rfl
    have e2 : (flat (.inner 0 0 l r) ++ tail).drop 1 = flat l ++ (flat r ++ tail) := by simp [flat]
    have hz : (((flat (.inner 0 0 l r) ++ tail).length : Int) == 0) = false := beq_eq_false_iff_ne.2 (by simp [flat]; omega)
    have hlp : 0 < (flat (.inner 0 0 l r) ++ tail).length := by simp [flat]
    have hfl : (flat (.inner 0 0 l r)).length = 1 + (flat l).length + (flat r).length := by simp [flat]; omega
    have hks : ks.length + 1 + (flat l).length + (flat r).length ≤ 1000000 := by omega
    have hm2 : (flat l ++ (flat r ++ tail)).length ≤ 1000000 := by simp [flat] at hm ⊢; omega
    have hm3 : (flat r ++ tail).length ≤ 1000000 := by simp at hm2 ⊢; omega
    rw [e1] at hc0 hc1 hc2
    rw [e2] at hS
    have HS := Lib.hid hS
    have hkl := keepP_len p l
    have hkr := keepP_len p r
    have ihl := Lib.hid (fun kv lv w h1 h2 h3 => pr_only p gB base w0 hB0 HK l (flat r ++ tail) (ks ++ [(false, 0, 0)]) kv lv w hil h1 h2 h3 (by simp; omega) hm2)
    have ihr := Lib.hid (fun kv lv w h1 h2 h3 => pr_only p gB base w0 hB0 HK r tail (ks ++ [(false, 0, 0)] ++ spo (keepP p l)) kv lv w hir h1 h2 h3 (by simp; omega) hm3)
    have HQ := Lib.hid (keep_spots p l r)
    obtain ⟨sl, hsl⟩ : ∃ s, spo (keepP p l) = s := ⟨_, rfl⟩
    obtain ⟨sr, hsr⟩ : ∃ s, spo (keepP p r) = s := ⟨_, rfl⟩
    rw [hsl] at ihl ihr HQ hkl
    rw [hsr] at ihr HQ hkr
    obtain ⟨s2, hs2⟩ : ∃ s, spo (keepP p (.inner 0 0 l r)) = s := ⟨_, rfl⟩
    rw [hs2] at HQ ⊢
    have hls : ks.length + 1 + sl.length + sr.length ≤ 1000000 := by omega
    clear hl hp hcm hS e1 e2 hrun hown hn hfl hm2 hm3 hil hir hkl hkr hsl hsr hs2 hks
    generalize (flat (.inner 0 0 l r) ++ tail).length = N at *
    have hN : (0 : Int) < (N : Int) := by omega
    simp only [Nat.zero_mul, Nat.add_zero] at hc0 hc1 hc2
    have BA := below_new w (.cells #[.bool false, .int .i64 0, .int .i64 0] 56)
    have hgw : g < w.heap.size := Nat.lt_of_lt_of_le hgb (Nat.le_trans hB0 B.size)
    have hd0 := (BA.cell (p := ⟨g, off, none⟩) hgw).trans hc0
    have hd1 := (BA.cell (p := ⟨g, off + 1, none⟩) hgw).trans hc1
    have hd2 := (BA.cell (p := ⟨g, off + 2, none⟩) hgw).trans hc2
    obtain ⟨kA, kcap, rfl⟩ := own_slice HO.out
    obtain ⟨n0, hn0⟩ : ∃ n, ks.length = n := ⟨_, rfl⟩
    rw [hn0] at HO hls
    rw [hn0]
    go_enter Try.func31, Try.ntmps31
    go_wp2_with fail
    go_region
    have hbw : base ≤ w.heap.size := Nat.le_trans hB0 B.size
    have O2 : Hid ((((w.alloc (.cells #[.bool false, .int .i64 0, .int .i64 0] 56)).alloc (.cells #[.bool false, .int .i64 0, .int .i64 0] 56)).drew).ownsRow base 56 3 (.slice kA n0 kcap) n0 (ks.flatMap spC)) := Lib.hid ((HO.out.alloc _).alloc _)
    have S2 : Hid (Spots (w.heap.size + 2) (((w.alloc (.cells #[.bool false, .int .i64 0, .int .i64 0] 56)).alloc (.cells #[.bool false, .int .i64 0, .int .i64 0] 56)).drew) [(false, 0, 0)] [.slice (some ⟨w.heap.size + 1, 0, none⟩) 1 1]) := Lib.hid (keeps_spots _ _ _ _ _ _ (one_spot _ (false, 0, 0) _ _ (by simp)) (Below.refl _ _).drew (Nat.le_refl _))
    have BX : Below base w (((w.alloc (.cells #[.bool false, .int .i64 0, .int .i64 0] 56)).alloc (.cells #[.bool false, .int .i64 0, .int .i64 0] 56)).drew) := ((((Below.refl base w).alloc hbw _).alloc (by simp; omega) _)).drew
    clear hd0 hd1 hd2 hc0 hc1 hc2 BA hrun'
    go_wp2_with (at_builtin; refine append_spots _ rfl _ _ rfl base _ _ _ rfl O2.out _ _ _ rfl S2.out ?c1 ?c2 ?_)
    case c1 => simp; omega
    case c2 => simp; omega
    intro v' w' hown' hgr
    have BY := BX.grown hgr (by simp; omega) (fun k hk => (O2.out.lt k hk).1)
    have hbw' : base ≤ w'.heap.size := Nat.le_trans hbw BY.size
    have B2 := B.trans BY
    have HO2 : Hid (w'.ownsRow base 56 3 v' (ks ++ [(false, 0, 0)]).length ((ks ++ [(false, 0, 0)]).flatMap spC)) := Lib.hid (by rw [List.flatMap_append, List.length_append, hn0]; simpa using hown')
    have HS2 := Lib.hid (keeps_spots _ _ _ _ _ _ HS.out BY (Nat.le_refl _))
    clear hown' hgr O2 S2 BX BY HS HO
    go_wp2_with fail
    refine (ihl.out v' _ w' B2 HO2.out HS2.out).mono ?_
    rintro e W1 ⟨v1, l1, rfl, hv1, hl1, B3⟩
    have H1 := Lib.hid hv1
    have L1 := Lib.hid hl1
    obtain ⟨A1, c1, rfl⟩ := own_slice hv1
    obtain ⟨A2, c2, rfl, -⟩ := spots_at hl1
    obtain ⟨n1, hn1⟩ : ∃ n, (ks ++ [(false, 0, 0)] ++ sl).length = n := ⟨_, rfl⟩
    obtain ⟨m1, hm1⟩ : ∃ n, (flat r ++ tail).length = n := ⟨_, rfl⟩
    rw [hm1] at L1
    rw [hm1]
    have HL1 := Lib.hid hn1
    have HN1 : Hid (n1 = n0 + 1 + sl.length) := Lib.hid (by rw [← hn1]; simp; omega)
    rw [hn1] at H1
    rw [hn1]
    clear hv1 hl1 hn1 hm1 HO2 HS2 B2 hbw'
    go_wp2_with fail
    have H1' : W1.ownsRow base 56 3 (.slice A1 n1 c1) (ks ++ [(false, 0, 0)] ++ sl).length ((ks ++ [(false, 0, 0)] ++ sl).flatMap spC) := by
      rw [HL1.out]; exact H1.out
    refine (ihr.out _ _ W1 B3 H1' L1.out).mono ?_
    clear H1 L1 H1' B3 HL1
    rintro e W2 ⟨v2, l2, rfl, hv2, hl2, B4⟩
    have L2 := Lib.hid hl2
    obtain ⟨A3, c3, rfl⟩ := own_slice hv2
    obtain ⟨A4, c4, rfl, -⟩ := spots_at hl2
    obtain ⟨n2, hn2⟩ : ∃ n, (ks ++ [(false, 0, 0)] ++ sl ++ sr).length = n := ⟨_, rfl⟩
    obtain ⟨m2, hm2⟩ : ∃ n, tail.length = n := ⟨_, rfl⟩
    have HN2 : Hid (n2 = n1 + sr.length) := Lib.hid (by rw [← hn2, HN1.out]; simp; omega)
    have HV2 : Hid (W2.ownsRow base 56 3 (.slice A3 n2 c3) (ks ++ (false, 0, 0) :: (sl ++ sr)).length ((ks ++ (false, 0, 0) :: (sl ++ sr)).flatMap spC)) := Lib.hid (by rw [← hn2]; simpa using hv2)
    rw [hm2] at L2
    rw [hn2, hm2]
    clear hv2 hl2 hn2 hm2
    have HDEL : Hid (Calls Try.prog 41 #[.slice A3 n2 c3, .int .i64 (n0 : Int), .int .i64 ((n0 : Int) + 1)] W2 fun e W' => ∃ v', e = .returned v' ∧ W'.ownsRow base 56 3 v' (ks ++ (sl ++ sr)).length ((ks ++ (sl ++ sr)).flatMap spC) ∧ W2.grownBy W' (Value.slice A3 n2 c3).ownBlock) := Lib.hid (by
      have := delete_own base _ ks (sl ++ sr) (false, 0, 0) ((n0 : Int) + 1) W2 HV2.out (by rw [hn0]) (by simp; omega)
      rwa [hn0] at this)
    have HB : Hid (∀ W', W2.grownBy W' (Value.slice A3 n2 c3).ownBlock → Below base W2 W') := Lib.hid fun W' h => (Below.refl base W2).grown h (Nat.le_trans hB0 B4.size) (fun k hk => (HV2.out.lt k hk).1)
    obtain ⟨q, hq⟩ : ∃ q, wrap64 ((n0 : Int) + 1) = q := ⟨_, rfl⟩
    have HQ1 : Hid (q = (n0 : Int) + 1) := Lib.hid (by rw [← hq]; unfold wrap64; omega)
    rw [← HQ1.out] at HDEL
    clear hn0 hls
    by_cases hsl : sl = []
    · have e1 : ((n1 : Int) == q) = true := beq_iff_eq.2 (by rw [HQ1.out, HN1.out, hsl]; simp)
      have HE : Hid (ks ++ (sl ++ sr) = ks ++ s2) := Lib.hid (by rw [HQ.out, if_pos hsl, hsl]; rfl)
      clear HN1 HN2 hsl
      go_wp2_with fail
      refine HDEL.out.mono ?_
      rintro e W3 ⟨v3, rfl, hv3, hgr⟩
      have BZ := HB.out W3 hgr
      have H3 : Hid (W3.ownsRow base 56 3 v3 (ks ++ s2).length ((ks ++ s2).flatMap spC)) := Lib.hid (by rw [← HE.out]; exact hv3)
      clear hv3 hgr
      go_wp2
      go_ret2
      exact ⟨_, _, rfl, H3.out, keeps_spots _ _ _ _ _ _ L2.out BZ (Nat.le_refl _), B4.trans BZ⟩
    · have hpl : 0 < sl.length := by cases sl with | nil => exact absurd rfl hsl | cons _ _ => simp
      have e1 : ((n1 : Int) == q) = false := beq_eq_false_iff_ne.2 (by have := HN1.out; have := HQ1.out; omega)
      by_cases hsr : sr = []
      · have e2 : ((n2 : Int) == (n1 : Int)) = true := beq_iff_eq.2 (by rw [HN2.out, hsr]; simp)
        have HE : Hid (ks ++ (sl ++ sr) = ks ++ s2) := Lib.hid (by rw [HQ.out, if_neg hsl, if_pos hsr, hsr, List.append_nil])
        clear HN1 HN2 hsl hsr hpl
        go_wp2_with fail
        refine HDEL.out.mono ?_
        rintro e W3 ⟨v3, rfl, hv3, hgr⟩
        have BZ := HB.out W3 hgr
        have H3 : Hid (W3.ownsRow base 56 3 v3 (ks ++ s2).length ((ks ++ s2).flatMap spC)) := Lib.hid (by rw [← HE.out]; exact hv3)
        clear hv3 hgr
        go_wp2
        go_ret2
        exact ⟨_, _, rfl, H3.out, keeps_spots _ _ _ _ _ _ L2.out BZ (Nat.le_refl _), B4.trans BZ⟩
      · have hpr : 0 < sr.length := by cases sr with | nil => exact absurd rfl hsr | cons _ _ => simp
        have e2 : ((n2 : Int) == (n1 : Int)) = false := beq_eq_false_iff_ne.2 (by have := HN2.out; omega)
        have H3 : Hid (W2.ownsRow base 56 3 (.slice A3 n2 c3) (ks ++ s2).length ((ks ++ s2).flatMap spC)) := Lib.hid (by rw [HQ.out, if_neg hsl, if_neg hsr]; exact HV2.out)
        clear HN1 HN2 hsl hsr hpl hpr
        go_wp2
        go_ret2
        exact ⟨_, _, rfl, H3.out, L2.out, B4⟩

end Go.Proofs.Ytkmlnglmecjmeaa
