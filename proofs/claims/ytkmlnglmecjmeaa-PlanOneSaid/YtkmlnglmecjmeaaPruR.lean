import Derived.Test.YtkmlnglmecjmeaaJoinS
/- The document's Only and Without of layer 11. Condition: the slices read as a tree's spots, or nothing's, of at most 400,000; as members, of at most a million. -/
namespace Go.Proofs.Ytkmlnglmecjmeaa
open Go Go.RowKit
set_option linter.unusedVariables false

set_option maxRecDepth 100000 in
set_option maxHeartbeats 4000000 in
theorem refOnly_nil (v u : Value) (K : List (Int × Int)) (w : World) (h : Spots w.heap.size w [] [v]) :
    Calls Try.prog 14 #[v, u] w fun e W' => ∃ v', e = .returned v' ∧ Spots W'.heap.size W' [] [v'] ∧ Below w.heap.size w W' := by
  have HX := Lib.hid h
  obtain ⟨A, cap, rfl, hlc, hcm, _⟩ := spots_at h
  clear h
  go_enter Try.func14, Try.ntmps14
  go_wp2_with fail
  refine (refHalves_few [] _ w HX.out (by decide)).mono ?_
  rintro e W1 ⟨rfl, rfl⟩
  go_wp2
  go_ret
  exact ⟨_, rfl, own_spots (World.ownsRow_nil _ w.heap.size _ _), Below.refl _ _⟩
set_option maxRecDepth 100000 in
set_option maxHeartbeats 4000000 in
theorem refOnly_leaf (a b : Int) (v u : Value) (K : List (Int × Int)) (w : World) (h : Spots w.heap.size w (flat (.leaf a b)) [v]) (hK : Mems w.heap.size w K [u]) :
    Calls Try.prog 14 #[v, u] w fun e W' => ∃ v', e = .returned v' ∧ Spots W'.heap.size W' (spo (keepT K (.leaf a b))) [v'] ∧ Below w.heap.size w W' := by
  have HX := Lib.hid h
  have HK := Lib.hid hK
  obtain ⟨A, cap, rfl, hlc, hcm, hp⟩ := spots_at h
  obtain ⟨g, off, rfl, hg, k0, k1, k2⟩ := hp 0 (by simp [flat])
  replace k1 : w.cell? ⟨g, off + 0 * 3 + 1, none⟩ = some (.int .i64 a) := k1
  replace k2 : w.cell? ⟨g, off + 0 * 3 + 2, none⟩ = some (.int .i64 b) := k2
  simp only [Nat.zero_mul, Nat.add_zero] at k1 k2
  clear h hp k0 hcm
  have hN1 : (((flat (.leaf a b)).length : Int) == 1) = true := rfl
  have hNp : 0 < (flat (.leaf a b)).length := by simp [flat]
  have hNq : (0 : Int) < ((flat (.leaf a b)).length : Int) := by omega
  have hNl : (flat (.leaf a b)).length ≤ 1 := by simp [flat]
  obtain ⟨xs, hxs⟩ : ∃ xs, flat (.leaf a b) = xs := ⟨_, rfl⟩
  rw [hxs] at HX hN1 hNp hNq hlc hNl
  rw [hxs]
  by_cases hm : (a, b) ∈ K
  · have HE : Hid (spo (keepT K (.leaf a b)) = xs) := Lib.hid (by rw [← hxs]; show spo (if (a, b) ∈ K then some (Tr.leaf a b) else none) = _; rw [if_pos hm]; rfl)
    have HH : Hid (∀ w, Mems w.heap.size w K [u] → Calls Try.prog 7 #[u, vM a b] w fun e W' => e = .returned (.bool true) ∧ Below w.heap.size w W') := Lib.hid fun w h => by
      have := refHas_any u K a b w h
      rwa [decide_eq_true hm] at this
    clear hm hxs
    go_enter Try.func14, Try.ntmps14
    go_wp2_with fail
    refine (refHalves_few xs _ w HX.out (by omega)).mono ?_
    rintro e W1 ⟨rfl, rfl⟩
    go_wp2_with fail
    refine (HH.out w HK.out).mono ?_
    rintro e W1 ⟨rfl, B⟩
    have HX1 := Lib.hid (keeps_spots _ _ _ _ _ _ HX.out B B.size)
    have B0 := below_new W1 (.cells #[] 56)
    have HX2 := Lib.hid (keeps_spots _ _ _ _ _ _ HX1.out B0 (Nat.le_refl _))
    go_wp2_with (at_builtin; refine append_spots _ rfl _ _ rfl W1.heap.size _ _ _ rfl (owns_empty W1 56 3 (Nat.le_refl _)) W1.heap.size _ xs rfl HX2.out ?c1 ?c2 ?_)
    case c1 => omega
    case c2 => simp
    intro v' w' hown' hgr
    have B2 := ((Below.refl W1.heap.size W1).alloc (Nat.le_refl _) (.cells #[] 56)).grown hgr (by simp) (by intro k hk; simp [Value.ownBlock] at hk; omega)
    go_wp2
    go_ret
    rw [HE.out]
    exact ⟨_, rfl, own_spots (by simpa using hown'), B.trans (B2.mono B.size)⟩
  · have HE : Hid (spo (keepT K (.leaf a b)) = []) := Lib.hid (by show spo (if (a, b) ∈ K then some (Tr.leaf a b) else none) = _; rw [if_neg hm]; rfl)
    have HH : Hid (∀ w, Mems w.heap.size w K [u] → Calls Try.prog 7 #[u, vM a b] w fun e W' => e = .returned (.bool false) ∧ Below w.heap.size w W') := Lib.hid fun w h => by
      have := refHas_any u K a b w h
      rwa [decide_eq_false hm] at this
    clear hm hxs
    go_enter Try.func14, Try.ntmps14
    go_wp2_with fail
    refine (refHalves_few xs _ w HX.out (by omega)).mono ?_
    rintro e W1 ⟨rfl, rfl⟩
    go_wp2_with fail
    refine (HH.out w HK.out).mono ?_
    rintro e W1 ⟨rfl, B⟩
    go_wp2
    go_ret
    rw [HE.out]
    exact ⟨_, rfl, own_spots (World.ownsRow_nil _ w.heap.size _ _), B⟩
set_option maxRecDepth 100000 in
set_option maxHeartbeats 4000000 in
theorem refOnly_flat (K : List (Int × Int)) : ∀ (t : Tr) (v u : Value) (w : World), Spots w.heap.size w (flat t) [v] → Mems w.heap.size w K [u] → (flat t).length ≤ 400000 →
    Calls Try.prog 14 #[v, u] w fun e W' => ∃ v', e = .returned v' ∧ Spots W'.heap.size W' (spo (keepT K t)) [v'] ∧ Below w.heap.size w W'
  | .leaf a b, v, u, w, h, hK, _ => refOnly_leaf a b v u K w h hK
  | .inner a b l r, v, u, w, h, hK, hn => by
    have HX := Lib.hid h
    have HK := Lib.hid hK
    obtain ⟨A, cap, rfl, hlc, hcm, -⟩ := spots_at h
    have hl := flat_inner_len a b l r
    have hfl : (flat l).length ≤ 400000 := by omega
    have hfr : (flat r).length ≤ 400000 := by omega
    have ihl := Lib.hid (fun v u w h hK => refOnly_flat K l v u w h hK hfl)
    have ihr := Lib.hid (fun v u w h hK => refOnly_flat K r v u w h hK hfr)
    have hll : (spo (keepT K l)).length ≤ 400000 := Nat.le_trans (len_keep K (some l)) hfl
    have hlr : (spo (keepT K r)).length ≤ 400000 := Nat.le_trans (len_keep K (some r)) hfr
    have HJ := Lib.hid (fun u v w h h' => refJoinO_any u v (keepT K l) (keepT K r) w h h' (by omega))
    have HH := Lib.hid (fun v w h => refHalves_inner a b l r v w h (by omega))
    have HE : Hid (spo (keepT K (.inner a b l r)) = spo (joinO (keepT K l) (keepT K r))) := Lib.hid rfl
    clear h hK hl hlc hcm hfl hfr hll hlr
    generalize (flat (.inner a b l r)).length = N at *
    clear hn
    go_enter Try.func14, Try.ntmps14
    go_wp2_with fail
    refine (HH.out _ w HX.out).mono ?_
    rintro e W1 ⟨v1, v2, rfl, h1, h2, B⟩
    have H1 := Lib.hid h1
    have H2 := Lib.hid h2
    replace HK := Lib.hid (keeps_mems _ _ _ _ _ _ HK.out B B.size)
    clear h1 h2
    go_wp2_with fail
    refine (ihl.out v1 u W1 H1.out HK.out).mono ?_
    rintro e W2 ⟨v3, rfl, h3, hb⟩
    have H3 := Lib.hid h3
    replace H2 := Lib.hid (keeps_spots _ _ _ _ _ _ H2.out hb hb.size)
    replace HK := Lib.hid (keeps_mems _ _ _ _ _ _ HK.out hb hb.size)
    replace B := B.trans (hb.mono B.size)
    clear h3 hb
    go_wp2_with fail
    refine (ihr.out v2 u W2 H2.out HK.out).mono ?_
    rintro e W3 ⟨v4, rfl, h4, hb⟩
    have H4 := Lib.hid h4
    replace H3 := Lib.hid (keeps_spots _ _ _ _ _ _ H3.out hb hb.size)
    replace B := B.trans (hb.mono B.size)
    clear h4 hb
    go_wp2_with fail
    refine (HJ.out v3 v4 W3 H3.out H4.out).mono ?_
    rintro e W4 ⟨v5, rfl, h5, hb⟩
    have H5 := Lib.hid h5
    replace B := B.trans (hb.mono B.size)
    clear h5 hb
    go_wp2
    go_ret
    rw [HE.out]
    exact ⟨_, rfl, H5.out, B⟩
theorem refOnly_any (v u : Value) (ot : Option Tr) (K : List (Int × Int)) (w : World) (h : Spots w.heap.size w (spo ot) [v]) (hK : Mems w.heap.size w K [u]) (hn : (spo ot).length ≤ 400000) :
    Calls Try.prog 14 #[v, u] w fun e W' => ∃ v', e = .returned v' ∧ Spots W'.heap.size W' (spo (keepO K ot)) [v'] ∧ Below w.heap.size w W' := by
  cases ot with
  | none => exact refOnly_nil v u K w h
  | some t => exact refOnly_flat K t v u w h hK hn

theorem filter_take (p : Int × Int → Bool) (xs : List (Int × Int)) (k : Nat) (h : k < xs.length) : (xs.take (k + 1)).filter p = (xs.take k).filter p ++ (if p xs[k] then [xs[k]] else []) := by
  rw [List.take_succ_eq_append_getElem h, List.filter_append]
  congr 1
  by_cases hp : p xs[k] = true
  · rw [if_pos hp]; simp [hp]
  · rw [if_neg hp]; simp [hp]
theorem filter_len (p : Int × Int → Bool) (xs : List (Int × Int)) (k : Nat) : ((xs.take k).filter p).length ≤ k := by
  have h1 := List.length_filter_le p (xs.take k)
  have h2 : (xs.take k).length ≤ k := by rw [List.length_take]; omega
  omega

end Go.Proofs.Ytkmlnglmecjmeaa
