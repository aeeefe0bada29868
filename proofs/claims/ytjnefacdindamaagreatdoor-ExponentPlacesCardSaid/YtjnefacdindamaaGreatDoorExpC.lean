import Derived.Test.YtjnefacdindamaaGreatDoorExpK
import Derived.Test.YtjnefacdindamaaGreatDoorLabCA
/- The landed Secret, Key and Blinded of layer 14. Conditions: the slices read as a tree's spots, or nothing's, and as secrets; the secrets of the tree's members have at most 4 bytes each. -/
namespace Go.Proofs.YtjnefacdindamaaGreatDoor
open Go Go.RowKit Num
set_option linter.unusedVariables false
set_option maxRecDepth 100000

set_option maxRecDepth 100000 in
set_option maxHeartbeats 4000000 in
theorem eSecret_any (v : Value) (ds : List Dr) (a b : Int) (w : World) (h : Draws w.heap.size w ds [v]) :
    Calls Tryz.prog 14 #[v, vM a b] w fun e W' => e = .returned (.string (tx (secL ds (a, b)))) ∧ Below w.heap.size w W' := by
  obtain ⟨A, cap, rfl, hlc, hcm, hp⟩ := draws_at h
  have HP := Lib.hid hp
  have hcm2 : cap ≤ 9223372036854775807 := Nat.le_trans hcm (by decide)
  clear hp h hcm
  go_enter Tryz.func14, Tryz.ntmps14
  go_wp2_with fail
  obtain ⟨W0, hW0, hR, B⟩ : ∃ W0, w.alloc (.cells #[.int .i64 a, .int .i64 b] 29) = W0 ∧ Box W0 w.heap.size [.int .i64 a, .int .i64 b] ∧ Below w.heap.size w W0 := ⟨_, rfl, Box.new w _ _, below_new _ _⟩
  rw [hW0]
  clear hW0
  obtain ⟨G, hG⟩ : ∃ G, w.heap.size = G := ⟨_, rfl⟩
  rw [hG] at hR B HP
  try rw [hG]
  go_loopw [9] (fun i wr => ∃ k : Nat, k ≤ ds.length ∧ i = .int .i64 k ∧ Hid (secL ds (a, b) = secL (ds.drop k) (a, b)) ∧ Box wr G [.int .i64 a, .int .i64 b] ∧ Below G w wr)
    (fun i _ => ds.length - (intOf i).toNat)
  case atStart => exact ⟨0, Nat.zero_le _, rfl, Lib.hid rfl, hR, B⟩
  case round =>
    obtain ⟨k, hk, rfl, HS, hR, B⟩ := hrel
    by_cases hlt : k < ds.length
    · have hd : decide (k < ds.length) = true := by simpa using hlt
      have hi : (k : Int) < (ds.length : Int) := by omega
      obtain ⟨g, off, rfl, hbn, hc0, hc1, hc2, hc3⟩ := HP.out k hlt
      have hk0 := (B.cell (p := ⟨g, off + k * 4, none⟩) hbn).trans hc0
      have hk1 := (B.cell (p := ⟨g, off + k * 4 + 1, none⟩) hbn).trans hc1
      have hk2 := (B.cell (p := ⟨g, off + k * 4 + 2, none⟩) hbn).trans hc2
      have hk3 := (B.cell (p := ⟨g, off + k * 4 + 3, none⟩) hbn).trans hc3
      have hne : g ≠ G := by omega
      have c0 := hR.c 0 _ rfl
      have c1 := hR.c 1 _ rfl
      have hGl := hR.lt
      have hge : (0 : Int) ≤ (k : Int) := by omega
      have H1 := Lib.hid (fun hn => secL_step (m := (a, b)) hlt hn HS.out)
      have H2 := Lib.hid (fun hn => secL_here (m := (a, b)) hlt hn HS.out)
      obtain ⟨⟨⟨x, y⟩, s, t⟩, hx⟩ : ∃ p : Dr, ds[k] = p := ⟨_, rfl⟩
      rw [hx] at hk0 hk1 hk2 hk3 H1 H2
      simp only at hk0 hk1 hk2 hk3
      clear hc0 hc1 hc2 hc3 hx
      by_cases h1 : a = x
      · subst h1
        by_cases h2 : b = y
        · subst h2
          have HR : Hid (secL ds (a, b) = s) := Lib.hid (H2.out rfl)
          clear H1 H2

          go_wp2
          go_ret
          exact ⟨by rw [HR.out]; rfl, by rw [hG]; exact (B.alloc (by have := B.size; omega) _)⟩
        · have HN := Lib.hid (H1.out (fun e => h2 (by injection e with _ e2; exact e2.symm)))
          clear H1 H2
          have hxy : ((y : Int) == b) = false := by rw [beq_eq_false_iff_ne]; exact fun e => h2 e.symm
          go_wp2
          go_roundw
          case rel => exact ⟨k + 1, by omega, by go_num, HN, hR.next (below_new _ _), B.alloc (by have := hR.lt; omega) _⟩
          case measure => simp [intOf]; omega
      · have HN := Lib.hid (H1.out (fun e => h1 (by injection e with e1 _; exact e1.symm)))
        clear H1 H2
        have hxy : ((x : Int) == a) = false := by rw [beq_eq_false_iff_ne]; exact fun e => h1 e.symm
        go_wp2
        go_roundw
        case rel => exact ⟨k + 1, by omega, by go_num, HN, hR.next (below_new _ _), B.alloc (by have := hR.lt; omega) _⟩
        case measure => simp [intOf]; omega
    · have hd : decide (k < ds.length) = false := by simpa using hlt
      have HR : Hid (secL ds (a, b) = []) := Lib.hid (secL_off (by omega) HS.out)
      have HT : Hid (ByteArray.mk #[] = tx []) := Lib.hid (by rw [tx_is])
      go_wp2
      go_ret
      exact ⟨by rw [HR.out, ← HT.out]; rfl, by rw [hG]; exact B⟩
theorem sBlindL (g : Int) (l : List UInt8) (w : World) (hl : l.length ≤ 4000) : Calls Tryz.prog 34 #[.int .i64 g, .string (tx l)] w fun e W' => e = .returned (.string (tx (bliL g l))) ∧ Below w.heap.size w W' := by
  have h := sblind_any g (tx l) w (by rw [tx_size]; exact hl)
  rw [tx_data, txt_tx] at h
  exact h
theorem sAgreeL (g : Int) (b l : List UInt8) (w : World) (hb : b.length ≤ 4000) (hl : l.length ≤ 4000) : Calls Tryz.prog 53 #[.int .i64 g, .string (tx b), .string (tx l)] w fun e W' => e = .returned (.string (tx (agrL g b l))) ∧ Below w.heap.size w W' := by
  have h := sagree_any g (tx b) (tx l) w (by rw [tx_size]; exact hb) (by rw [tx_size]; exact hl)
  rw [tx_data, tx_data, txt_tx] at h
  exact h
theorem keyT_few (g : Int) (ds : List Dr) : ∀ t, (∀ m ∈ lv (flat t), (secL ds m).length ≤ 4) → (keyT g ds t).length ≤ 192
  | .leaf a b, h => by
    have := h (a, b) (by simp [flat, lv])
    show (secL ds (a, b)).length ≤ 192
    omega
  | .inner _ _ l r, _ => joinK_len g _ _
theorem keyO_few (g : Int) (ds : List Dr) (x : Option Tr) (h : ∀ m ∈ lvO x, (secL ds m).length ≤ 4) : (keyO g ds x).length ≤ 192 := by
  cases x with
  | none => exact Nat.zero_le _
  | some t => exact keyT_few g ds t h
theorem place_small {ds : List Dr} {x : Option Tr} (hk : okT (spo x) = true) (hh : htO x ≤ 60) (hs : ∀ m ∈ lvO x, (secL ds m).length ≤ 4) (L I : Int) :
    okT (spo (placeT x L I)) = true ∧ htO (placeT x L I) ≤ 60 ∧ ∀ m ∈ lvO (placeT x L I), (secL ds m).length ≤ 4 := by
  refine ⟨placeT_ok hk L I, ?_⟩
  unfold placeT
  split
  · cases x with
    | none => exact ⟨hh, hs⟩
    | some t =>
      cases hq : sub t (path L.toNat I.toNat) with
      | none =>
        simp only [subO, hq, Option.map_none]
        exact ⟨by show (-1 : Int) ≤ 60; decide, fun m hm => by cases hm⟩
      | some q =>
        obtain ⟨o, u⟩ := q
        simp only [subO, hq, Option.map_some]
        have h1 := sub_high _ _ _ _ hq
        have h2 : ht t ≤ 60 := hh
        refine ⟨by show ht u ≤ 60; omega, fun m hm => hs m ?_⟩
        obtain ⟨a, r, e, -⟩ := sub_drop _ _ _ _ hq
        show m ∈ lv (flat t)
        rw [e, lv_append, lv_append]
        exact List.mem_append_right _ (List.mem_append_left _ hm)
  · exact ⟨by show (-1 : Int) ≤ 60; decide, fun m hm => by cases hm⟩
theorem endI_nil : endI [] 0 = -1 := rfl
set_option maxRecDepth 100000 in
theorem isWhole_any (v : Value) (x : Option Tr) (w : World) (h : Spots w.heap.size w (spo x) [v]) (hn : (spo x).length ≤ 1000000) :
    Calls Tryz.prog 31 #[v] w fun e W' => e = .returned (.bool x.isSome) ∧ Below w.heap.size w W' := by
  have HX := Lib.hid h
  have HE := Lib.hid (end_any v (spo x) 0 w h hn)
  obtain ⟨A, cap, rfl, hlc, hcm, -⟩ := spots_at h
  have he : endI (spo x) 0 = if x.isSome then ((spo x).length : Int) else -1 := by
    cases x with
    | none => rfl
    | some t => exact endI_flat t
  rw [he] at HE
  have hb : ((if x.isSome then ((spo x).length : Int) else -1) == ((spo x).length : Int)) = x.isSome := by
    cases x with
    | none => rfl
    | some t => simp
  obtain ⟨N, hN⟩ : ∃ N, (spo x).length = N := ⟨_, rfl⟩
  obtain ⟨q, hq⟩ : ∃ q : Int, (if x.isSome then ((spo x).length : Int) else -1) = q := ⟨_, rfl⟩
  rw [hq] at HE hb
  rw [hN] at HE hb
  rw [hN]
  clear h hq hN he
  go_enter Tryz.func31, Tryz.ntmps31
  go_wp2_with fail
  refine HE.out.mono ?_
  rintro e W1 ⟨rfl, B⟩
  go_wp2
  go_ret
  exact ⟨by simp only [← hb]; rfl, B⟩
set_option maxRecDepth 100000 in
set_option maxHeartbeats 8000000 in
theorem eKey_flat (g : Int) (ds : List Dr) : ∀ (t : Tr) (rest : List Sp) (v u : Value) (w : World), Spots w.heap.size w (flat t ++ rest) [v] → Draws w.heap.size w ds [u] → (flat t ++ rest).length ≤ 1000000 → (∀ m ∈ lv (flat t), (secL ds m).length ≤ 4) →
    Calls Tryz.prog 32 #[.int .i64 g, v, u] w fun e W' => ∃ v', e = .returned (.tuple #[.string (tx (keyT g ds t)), v']) ∧ Spots W'.heap.size W' rest [v'] ∧ Below w.heap.size w W'
  | .leaf a b, rest, v, u, w, h, hu, hn, hs => by
    obtain ⟨A, cap, rfl, hlc, hcm, hp⟩ := spots_at h
    have hcm2 : cap ≤ 9223372036854775807 := Nat.le_trans hcm (by decide)
    obtain ⟨A', hrun, hS⟩ := cut_from h 1 (by simp [flat])
    obtain ⟨g0, off, rfl, hgn, hc0, hc1, hc2⟩ := hp 0 (by simp [flat])
    have hrun' : ∀ wx, (Instr.slice 22 (.slice (some ⟨g0, off, none⟩) (flat (.leaf a b) ++ rest).length cap) (some (.int .i64 1)) none none).run Tryz.prog wx = .ok (.slice A' ((flat (.leaf a b) ++ rest).length - 1) (cap - 1)) wx := hrun
    have e1 : (flat (.leaf a b) ++ rest)[0]'(by simp [flat]) = (true, a, b) := rfl
    have e2 : (flat (.leaf a b) ++ rest).drop 1 = rest := rfl
    have hlp : 0 < (flat (.leaf a b) ++ rest).length := by simp [flat]
    rw [e1] at hc0 hc1 hc2
    rw [e2] at hS
    have HS := Lib.hid hS
    obtain ⟨Au, nu, cu, rfl⟩ : ∃ Au nu cu, u = .slice Au nu cu := by obtain ⟨Au, cu, h, -⟩ := draws_len hu _ rfl; exact ⟨_, _, _, h⟩
    have HU := Lib.hid hu
    clear h hp hcm hS e1 e2 hrun hs hu
    generalize (flat (.leaf a b) ++ rest).length = N at *
    have hN : (0 : Int) < (N : Int) := by omega
    have hN0 : ¬ N = 0 := by omega
    simp only [Nat.zero_mul, Nat.add_zero] at hc0 hc1 hc2
    replace hc1 : w.cell? ⟨g0, off + 1, none⟩ = some (.int .i64 a) := hc1
    replace hc2 : w.cell? ⟨g0, off + 1 + 1, none⟩ = some (.int .i64 b) := hc2
    go_enter Tryz.func32, Tryz.ntmps32
    go_wp2_with fail
    refine wp_region_results (fun r i => ([.slice Au nu cu, .slice (some ⟨g0, off, none⟩) N cap, .pointer (some ⟨g0, off, none⟩), .pointer (some ⟨g0, off + 1, none⟩), .agg #[.int .i64 a, .int .i64 b], .string (tx (secL ds (a, b))), .slice (some ⟨g0, off, none⟩) N cap, .slice A' (N - 1) (cap - 1), .string (tx (secL ds (a, b))), .slice A' (N - 1) (cap - 1)] : List Value).getD i undef) [5] [0, 0, 0, 0, 0, 0, 0, 0, 1, 0] (fun r q w' => (Below w.heap.size w w')) (by kernel_rfl) (by kernel_rfl) (fun r => ⟨rfl, rfl, rfl, Nat.le_refl _, fun _ _ => rfl⟩) ?_ ?_
    · refine ObsR_of_ends (by kernel_rfl) ?_
      intro r Fr hEA
      refine ⟨?_, ?_, ?_, ?_, ?_, ?_, ?_, ?_, ?_, ?_, trivial⟩
      · exact obR_move _ rfl (want_none rfl) (by kernel_rfl) (eval_out hEA (d := 2) (by kernel_rfl))
      · exact obR_move _ rfl (want_none rfl) (by kernel_rfl) (eval_out hEA (d := 1) (by kernel_rfl))
      · refine obR_val (want_none rfl) (by kernel_rfl) (fun ph w' hp hpm hw => ?_)
        have e16 : Fr.tmps[16]? = some (.slice (some ⟨g0, off, none⟩) N cap) := hEA.dst 1 _ 16 rfl rfl; simp [execOp, e16, hN0, go_sem]
      · refine obR_val (want_none rfl) (by kernel_rfl) (fun ph w' hp hpm hw => ?_)
        have e17 : Fr.tmps[17]? = some (.pointer (some ⟨g0, off, none⟩)) := hEA.dst 2 _ 17 rfl rfl; simp [execOp, e17, go_sem]
      · refine obR_val (want_none rfl) (by kernel_rfl) (fun ph w' hp hpm hw => ?_)
        have hc0 := (hw.cell (p := ⟨g0, off + 1, none⟩) hgn).trans hc1
        have hc1 := (hw.cell (p := ⟨g0, off + 1 + 1, none⟩) hgn).trans hc2
        have e18 : Fr.tmps[18]? = some (.pointer (some ⟨g0, off + 1, none⟩)) := hEA.dst 3 _ 18 rfl rfl; simp [execOp, e18, hc0, hc1, go_sem]
      · refine obR_call (q := 0) (f := 14) (args := #[.slice Au nu cu, .agg #[.int .i64 a, .int .i64 b]]) (want_none rfl) (by kernel_rfl) (fun w' => by have e15 : Fr.tmps[15]? = some (.slice Au nu cu) := hEA.dst 0 _ 15 rfl rfl; have e19 : Fr.tmps[19]? = some (.agg #[.int .i64 a, .int .i64 b]) := hEA.dst 4 _ 19 rfl rfl; simp [e15, e19, go_sem]) ?_
        intro w' hw
        have HU' := keeps_draws _ _ _ _ _ _ HU.out hw hw.size
        refine (eSecret_any _ ds a b w' HU').mono ?_
        rintro e w2 ⟨rfl, hb⟩
        exact ⟨_, rfl, fun r' hr hv => ⟨rfl, hw.trans (hb.mono hw.size)⟩⟩
      · exact obR_move _ rfl (want_none rfl) (by kernel_rfl) (eval_out hEA (d := 1) (by kernel_rfl))
      · refine obR_val (want_none rfl) (by kernel_rfl) (fun ph w' hp hpm hw => ?_)
        have e21 : Fr.tmps[21]? = some (.slice (some ⟨g0, off, none⟩) N cap) := hEA.dst 6 _ 21 rfl rfl; simp [execOp, e21, hrun', go_sem]
      · refine obR_val (want_none rfl) (by kernel_rfl) (fun ph w' hp hpm hw => ?_)
        have e20 : Fr.tmps[20]? = some (.string (tx (secL ds (a, b)))) := hEA.dst 5 _ 20 rfl rfl; simp [execOp, e20, go_sem]
      · refine obR_val (want_none rfl) (by kernel_rfl) (fun ph w' hp hpm hw => ?_)
        have e22 : Fr.tmps[22]? = some (.slice A' (N - 1) (cap - 1)) := hEA.dst 7 _ 22 rfl rfl; simp [execOp, e22, go_sem]
    · intro r w' hw
      simp only [laid, Act.put, List.setIfInBounds_toArray, List.set_cons_succ, List.set_cons_zero, List.getD_cons_succ, List.getD_cons_zero, Nat.zero_add, Nat.reduceAdd]
      go_wp2
      go_ret2
      exact ⟨_, rfl, keeps_spots _ _ _ _ _ _ HS.out hw hw.size, hw⟩
  | .inner a b l r, rest, v, u, w, h, hu, hn, hs => by
    obtain ⟨A, cap, rfl, hlc, hcm, hp⟩ := spots_at h
    have hcm2 : cap ≤ 9223372036854775807 := Nat.le_trans hcm (by decide)
    obtain ⟨A', hrun, hS⟩ := cut_from h 1 (by simp [flat])
    obtain ⟨g0, off, rfl, -, hc0, -, -⟩ := hp 0 (by simp [flat])
    have hrun' : ∀ wx, (Instr.slice 22 (.slice (some ⟨g0, off, none⟩) (flat (.inner a b l r) ++ rest).length cap) (some (.int .i64 1)) none none).run Tryz.prog wx = .ok (.slice A' ((flat (.inner a b l r) ++ rest).length - 1) (cap - 1)) wx := hrun
    have e1 : (flat (.inner a b l r) ++ rest)[0]'(by simp [flat]) = (false, a, b) := rfl
    have e2 : (flat (.inner a b l r) ++ rest).drop 1 = flat l ++ (flat r ++ rest) := by simp [flat]
    have hlp : 0 < (flat (.inner a b l r) ++ rest).length := by simp [flat]
    have hn2 : (flat l ++ (flat r ++ rest)).length ≤ 1000000 := by simp [flat] at hn ⊢; omega
    have hn3 : (flat r ++ rest).length ≤ 1000000 := by simp at hn2 ⊢; omega
    have e : lv (flat (.inner a b l r)) = lv (flat l) ++ lv (flat r) := by rw [← lv_append]; rfl
    rw [e] at hs
    have hsl : ∀ m ∈ lv (flat l), (secL ds m).length ≤ 4 := fun m hm => hs m (List.mem_append_left _ hm)
    have hsr : ∀ m ∈ lv (flat r), (secL ds m).length ≤ 4 := fun m hm => hs m (List.mem_append_right _ hm)
    have HL := Lib.hid (fun v u w h h' => eKey_flat g ds l (flat r ++ rest) v u w h h' hn2 hsl)
    have HR := Lib.hid (fun v u w h h' => eKey_flat g ds r rest v u w h h' hn3 hsr)
    have hkl := keyT_few g ds l hsl
    have hkr := keyT_few g ds r hsr
    rw [e1] at hc0
    rw [e2] at hS
    have HS := Lib.hid hS
    have HU := Lib.hid hu
    obtain ⟨x, hx1⟩ : ∃ x, keyT g ds l = x := ⟨_, rfl⟩
    obtain ⟨y, hy1⟩ : ∃ y, keyT g ds r = y := ⟨_, rfl⟩
    have HK : Hid (keyT g ds (.inner a b l r) = joinK g x y) := Lib.hid (by rw [← hx1, ← hy1]; rfl)
    rw [hx1] at hkl HL
    rw [hy1] at hkr HR
    have hex := tx_none x
    have hey := tx_none y
    clear h hp hcm hS e1 e2 hrun hn2 hn3 e hs hsl hsr hu hx1 hy1 hn
    generalize (flat (.inner a b l r) ++ rest).length = N at *
    have hN : (0 : Int) < (N : Int) := by omega
    have hN0 : ¬ N = 0 := by omega
    simp only [Nat.zero_mul, Nat.add_zero] at hc0
    go_enter Tryz.func32, Tryz.ntmps32
    go_wp2_with fail
    refine (HL.out _ u w HS.out HU.out).mono ?_
    rintro e W1 ⟨v1, rfl, hv1, B⟩
    have HV1 := Lib.hid hv1
    replace HU := Lib.hid (keeps_draws _ _ _ _ _ _ HU.out B B.size)
    clear hv1 HS HL
    go_wp2_with fail
    refine (HR.out v1 u W1 HV1.out HU.out).mono ?_
    rintro e W2 ⟨v2, rfl, hv2, hb⟩
    have HV2 := Lib.hid hv2
    replace B := B.trans (hb.mono B.size)
    clear hv2 hb HV1 HU HR
    have HN : Hid (ByteArray.mk #[] = tx []) := Lib.hid (by rw [tx_is])
    by_cases h1 : x = []
    · have HJ : Hid (joinK g x y = []) := Lib.hid (by unfold joinK; rw [if_pos (Or.inl h1)])
      rw [decide_eq_true h1] at hex
      clear h1
      go_wp2
      go_ret2
      exact ⟨v2, by rw [HK.out, HJ.out, ← HN.out]; rfl, HV2.out, B⟩
    · rw [decide_eq_false h1] at hex
      by_cases h2 : y = []
      · have HJ : Hid (joinK g x y = []) := Lib.hid (by unfold joinK; rw [if_pos (Or.inr h2)])
        rw [decide_eq_true h2] at hey
        clear h1 h2
        go_wp2
        go_ret2
        exact ⟨v2, by rw [HK.out, HJ.out, ← HN.out]; rfl, HV2.out, B⟩
      · have HJ : Hid (joinK g x y = agrL g (bliL g y) x) := Lib.hid (by unfold joinK; rw [if_neg (by rintro (h | h); exact h1 h; exact h2 h)])
        rw [decide_eq_false h2] at hey
        clear h1 h2
        go_wp2_with fail
        refine (sBlindL g y W2 (by omega)).mono ?_
        rintro e W3 ⟨rfl, hb⟩
        replace HV2 := Lib.hid (keeps_spots _ _ _ _ _ _ HV2.out hb hb.size)
        replace B := B.trans (hb.mono B.size)
        clear hb
        go_wp2_with fail
        refine (sAgreeL g (bliL g y) x W3 (by have := bli_len g y; omega) (by omega)).mono ?_
        rintro e W4 ⟨rfl, hb⟩
        replace HV2 := Lib.hid (keeps_spots _ _ _ _ _ _ HV2.out hb hb.size)
        replace B := B.trans (hb.mono B.size)
        clear hb
        go_wp2
        go_ret2
        exact ⟨v2, by rw [HK.out, HJ.out]; rfl, HV2.out, B⟩
set_option maxRecDepth 100000 in
set_option maxHeartbeats 4000000 in
theorem eKey_any (g : Int) (ds : List Dr) (x : Option Tr) (v u : Value) (w : World) (hx : Spots w.heap.size w (spo x) [v]) (hu : Draws w.heap.size w ds [u]) (hk : okT (spo x) = true) (hh : htO x ≤ 60) (hs : ∀ m ∈ lvO x, (secL ds m).length ≤ 4) :
    Calls Tryz.prog 10 #[.int .i64 g, v, u] w fun e W' => e = .returned (.string (tx (keyO g ds x))) ∧ Below w.heap.size w W' := by
  have hn : (spo x).length ≤ 1000000 := by have := (okT_parts hk).1; omega
  have HW := Lib.hid (isWhole_any v x w hx hn)
  have HX := Lib.hid hx
  have HU := Lib.hid hu
  clear hx hu
  cases x with
  | none =>
    have HT : Hid (ByteArray.mk #[] = tx (keyO g ds none)) := Lib.hid (by rw [tx_is]; rfl)
    go_enter Tryz.func10, Tryz.ntmps10
    go_wp2_with fail
    refine HW.out.mono ?_
    rintro e W1 ⟨rfl, B⟩
    simp only [Option.isSome_none]
    go_wp2
    go_ret
    exact ⟨by rw [← HT.out]; rfl, B⟩
  | some t =>
    have HK := Lib.hid (fun w h h' => eKey_flat g ds t [] v u w (by rw [List.append_nil]; exact h) h' (by rw [List.append_nil]; exact hn) hs)
    have HT : Hid (keyO g ds (some t) = keyT g ds t) := Lib.hid rfl
    clear hs
    go_enter Tryz.func10, Tryz.ntmps10
    go_wp2_with fail
    refine HW.out.mono ?_
    rintro e W1 ⟨rfl, B⟩
    simp only [Option.isSome_some]
    replace HX := Lib.hid (keeps_spots _ _ _ _ _ _ HX.out B B.size)
    replace HU := Lib.hid (keeps_draws _ _ _ _ _ _ HU.out B B.size)
    go_wp2_with fail
    refine (HK.out W1 HX.out HU.out).mono ?_
    rintro e W2 ⟨v2, rfl, -, hb⟩
    replace B := B.trans (hb.mono B.size)
    clear hb HX HU HK HW
    go_wp2
    go_ret
    exact ⟨by rw [HT.out]; rfl, B⟩
set_option maxRecDepth 100000 in
set_option maxHeartbeats 4000000 in
theorem eBlinded_any (g : Int) (ds : List Dr) (x : Option Tr) (L I : Int) (v u : Value) (w : World) (hx : Spots w.heap.size w (spo x) [v]) (hu : Draws w.heap.size w ds [u]) (hk : okT (spo x) = true) (hh : htO x ≤ 60) (hs : ∀ m ∈ lvO x, (secL ds m).length ≤ 4) :
    Calls Tryz.prog 12 #[.int .i64 g, v, u, vM L I] w fun e W' => e = .returned (.string (tx (bliO g ds x L I))) ∧ Below w.heap.size w W' := by
  have hpp := place_small hk hh hs L I
  have hkl := keyO_few g ds (placeT x L I) hpp.2.2
  have HK := Lib.hid (fun v w h h' => eKey_any g ds (placeT x L I) v u w h h' hpp.1 hpp.2.1 hpp.2.2)
  have HX := Lib.hid hx
  have HU := Lib.hid hu
  have HP := Lib.hid (fun w h => lPart_any v x L I w h hk hh)
  clear hx hu hpp
  obtain ⟨k, hk9⟩ : ∃ k, keyO g ds (placeT x L I) = k := ⟨_, rfl⟩
  have HBO : Hid (bliO g ds x L I = if k = [] then [] else bliL g k) := Lib.hid (by unfold bliO; rw [hk9])
  rw [hk9] at HK hkl
  have hek := tx_none k
  clear hk9 hk hh hs
  go_enter Tryz.func12, Tryz.ntmps12
  go_wp2_with fail
  obtain ⟨W0, hW0, b0, B⟩ : ∃ W0, w.alloc (.cells #[.int .i64 L, .int .i64 I] 25) = W0 ∧ Box W0 w.heap.size [.int .i64 L, .int .i64 I] ∧ Below w.heap.size w W0 := ⟨_, rfl, Box.new w _ _, below_new _ _⟩
  rw [hW0]
  clear hW0
  replace HX := Lib.hid (keeps_spots _ _ _ _ _ _ HX.out B B.size)
  replace HU := Lib.hid (keeps_draws _ _ _ _ _ _ HU.out B B.size)
  have q0 := b0.c 0 _ rfl
  have q1 := b0.c 1 _ rfl
  go_wp2_with fail
  refine (HP.out W0 HX.out).mono ?_
  rintro e W1 ⟨vp, rfl, hvp, hb⟩
  rw [partO_place] at hvp
  have HV := Lib.hid hvp
  replace HU := Lib.hid (keeps_draws _ _ _ _ _ _ HU.out hb hb.size)
  replace B := B.trans (hb.mono B.size)
  clear hb hvp HX q0 q1 b0 HP
  go_wp2_with fail
  refine (HK.out vp W1 HV.out HU.out).mono ?_
  rintro e W2 ⟨rfl, hb⟩
  replace B := B.trans (hb.mono B.size)
  clear hb HK HV HU
  by_cases h1 : k = []
  · have HN : Hid (ByteArray.mk #[] = tx (bliO g ds x L I)) := Lib.hid (by rw [HBO.out, if_pos h1, tx_is])
    rw [decide_eq_true h1] at hek
    clear h1
    go_wp2
    go_ret
    exact ⟨by rw [← HN.out]; rfl, B⟩
  · have HN : Hid (bliO g ds x L I = bliL g k) := Lib.hid (by rw [HBO.out, if_neg h1])
    rw [decide_eq_false h1] at hek
    clear h1
    go_wp2_with fail
    refine (sBlindL g k W2 (by omega)).mono ?_
    rintro e W3 ⟨rfl, hb⟩
    replace B := B.trans (hb.mono B.size)
    clear hb
    go_wp2
    go_ret
    exact ⟨by rw [HN.out]; rfl, B⟩
end Go.Proofs.YtjnefacdindamaaGreatDoor
