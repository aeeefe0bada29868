import Derived.Test.YtkmlnglmecjmeaaIterH
import Derived.BigRegion
/- slices.SortStableFunc of at most 8 trees' heads by layer 12's comparison: they stand in order; slices.SortedStableFunc of slices.Values. Conditions: each head reads as a tree's spots, or nothing's, of at most 100,000. -/
namespace Go.Proofs.Ytkmlnglmecjmeaa
open Go Go.RowKit
set_option linter.unusedVariables false

/-- Heads with one put in at a place. -/
def at3 (a : List Hd) (x : Hd) (j : Nat) (r : List Hd) : List Hd := a.take j ++ x :: (a.drop j ++ r)
theorem at3_len (a : List Hd) (x : Hd) (j : Nat) (r : List Hd) (h : j ≤ a.length) : (at3 a x j r).length = a.length + 1 + r.length := by
  simp only [at3, List.length_append, List.length_cons, List.length_take, List.length_drop]
  omega
theorem at3_here (a : List Hd) (x : Hd) (j : Nat) (r : List Hd) (h : j ≤ a.length) : ((at3 a x j r).map hV)[j]? = some (hV x) := by
  have e : (a.take j).length = j := by rw [List.length_take]; omega
  simp only [at3, List.map_append, List.map_cons]
  rw [List.getElem?_append_right (by rw [List.length_map, e]; exact Nat.le_refl _), List.length_map, e, Nat.sub_self]
  rfl
theorem at3_prev (a : List Hd) (x : Hd) (j : Nat) (r : List Hd) (h : j < a.length) : ((at3 a x (j + 1) r).map hV)[j]? = some (hV a[j]) := by
  simp only [at3, List.map_append]
  rw [List.getElem?_append_left (by simp; omega), List.getElem?_map, List.getElem?_take, if_pos (by omega), List.getElem?_eq_getElem h]
  rfl
theorem set_swap (a b : List Value) (p q : Value) : ∀ k, a.length = k → ((a ++ p :: q :: b).set (k + 1) p).set k q = a ++ q :: p :: b := by
  induction a with
  | nil => rintro k rfl; rfl
  | cons c a ih => rintro k rfl; simp
theorem at3_swap (a : List Hd) (x : Hd) (j : Nat) (r : List Hd) (h : j < a.length) : ((((at3 a x (j + 1) r).map hV).set (j + 1) (hV a[j])).set j (hV x)) = (at3 a x j r).map hV := by
  have e1 : at3 a x (j + 1) r = a.take j ++ a[j] :: x :: (a.drop (j + 1) ++ r) := by
    unfold at3
    rw [List.take_succ_eq_append_getElem h]
    simp only [List.append_assoc, List.cons_append, List.nil_append]
  have e2 : at3 a x j r = a.take j ++ x :: a[j] :: (a.drop (j + 1) ++ r) := by
    unfold at3
    rw [List.drop_eq_getElem_cons h]
    rfl
  rw [e1, e2, List.map_append, List.map_append, List.map_cons, List.map_cons, List.map_cons, List.map_cons]
  exact set_swap _ _ _ _ j (by rw [List.length_map, List.length_take]; omega)
theorem Box.put {w : World} {g : Nat} {cs : List Value} (h : Box w g cs) (i : Nat) (v : Value) : Box (w.setCell ⟨g, i, none⟩ v) g (cs.set i v) := by
  refine ⟨fun k u hk => ?_, fun k hk => ?_⟩
  · rw [List.getElem?_set] at hk
    by_cases hik : i = k
    · subst hik
      rw [if_pos rfl] at hk
      by_cases hl : i < cs.length
      · rw [if_pos hl] at hk
        simp only [Option.some.injEq] at hk
        subst hk
        exact World.cell?_setCell_same' _ _ _ (by rw [h.c i _ (List.getElem?_eq_getElem hl)]; rfl)
      · rw [if_neg hl] at hk; cases hk
    · rw [if_neg hik] at hk
      rw [World.cell?_setCell_other (a := ⟨g, i, none⟩) (b := ⟨g, k, none⟩) (h := fun e => hik (congrArg Addr.off e))]
      exact h.c k u hk
  · rw [World.frozen?_setCell]
    exact h.f k (by simpa using hk)
theorem sortA_one (xs : List (Option Tr)) : sortA (xs.take 1) ++ xs.drop 1 = xs := by
  cases xs with
  | nil => rfl
  | cons x r => rfl
theorem sortA_len2 (xs : List (Option Tr)) (i : Nat) (h : i ≤ xs.length) : (sortA (xs.take i)).length = i := (sortA_facts xs i h).2.1
/-- Heads in order but for what comes behind place i. -/
theorem each_split {n : Nat} {w : World} {hs : List Hd} {xs : List (Option Tr)} {i : Nat} (hi : i < xs.length) (h : Each n w hs (sortA (xs.take i) ++ xs.drop i)) :
    hs.length = xs.length ∧ ∃ (a : List Hd) (x : Hd) (r : List Hd), hs = at3 a x i r ∧ a.length = i ∧ Each n w a (sortA (xs.take i)) ∧ Each n w [x] [xs[i]] ∧ Each n w r (xs.drop (i + 1)) := by
  have hsl := sortA_len2 xs i (by omega)
  have hlen : hs.length = xs.length := by rw [h.1, List.length_append, hsl, List.length_drop]; omega
  have hi2 : i < hs.length := by omega
  have h1 := h.take i
  have h2 := h.drop i
  rw [show (sortA (xs.take i) ++ xs.drop i).take i = sortA (xs.take i) from List.take_left' hsl] at h1
  rw [show (sortA (xs.take i) ++ xs.drop i).drop i = xs.drop i from List.drop_left' hsl, List.drop_eq_getElem_cons hi, List.drop_eq_getElem_cons hi2] at h2
  have h3 := h2.take 1
  have h4 := h2.drop 1
  have e1 : (hs.take i).length = i := by rw [List.length_take]; omega
  refine ⟨hlen, hs.take i, hs[i], hs.drop (i + 1), ?_, e1, h1, h3, h4⟩
  unfold at3
  rw [List.take_of_length_le (by omega), List.drop_of_length_le (by omega), List.nil_append, ← List.drop_eq_getElem_cons hi2, List.take_append_drop]
theorem each_ins {n : Nat} {w : World} {a r : List Hd} {x : Hd} {xs : List (Option Tr)} {i j : Nat} (hi : i < xs.length) (h1 : Each n w a (sortA (xs.take i))) (h2 : Each n w [x] [xs[i]]) (h3 : Each n w r (xs.drop (i + 1))) (hk : kIx xs[i] (sortA (xs.take i)) = j) :
    Each n w (at3 a x j r) (sortA (xs.take (i + 1)) ++ xs.drop (i + 1)) := by
  rw [sortA_snoc xs i hi, insG_at hk]
  have h := ((h1.take j).append (h2.append (h1.drop j))).append h3
  have e : at3 a x j r = a.take j ++ ([x] ++ a.drop j) ++ r := by simp [at3]
  rw [e]
  exact h

set_option maxRecDepth 100000 in
set_option maxHeartbeats 16000000 in
theorem insH_any (A : Option Addr) (g n cap : Nat) (hs : List Hd) (xs : List (Option Tr)) (w0 w : World) (hA : 0 < n → A = some ⟨g, 0, none⟩) (hbx : Box w g (hs.map hV)) (hg : w0.heap.size ≤ g) (hn : xs.length = n) (hn8 : n ≤ 1000) (hE : Each w0.heap.size w0 hs xs) (B : Below w0.heap.size w0 w) (hx : ∀ x ∈ xs, (spo x).length ≤ 100000) :
    Calls Try.prog 77 #[.slice A n cap, .int .i64 0, .int .i64 (n : Int), .func (.func 36) #[] #[]] w fun e W' => (∃ v, e = .returned v) ∧ ∃ hs', hs'.length = n ∧ Box W' g (hs'.map hV) ∧ Each w0.heap.size w0 hs' (sortA xs) ∧ Below w0.heap.size w0 W' := by
  have HXS := Lib.hid hx
  have HNN := Lib.hid hn
  have HAA := Lib.hid hA
  have HE0 : Hid (Each w0.heap.size w0 hs (sortA (xs.take 1) ++ xs.drop 1)) := Lib.hid (by rw [sortA_one]; exact hE)
  have hl0 : hs.length = n := by rw [hE.1]; exact hn
  have HL0 := Lib.hid hl0
  clear hx hn hE hl0 hA
  go_enter Try.func77, Try.ntmps77
  go_wp2_with fail
  go_loopw [8, 9] (fun iv _ wr => ∃ (i : Nat) (wq : World) (hc : List Hd), wq = wr ∧ 0 < i ∧ i ≤ n + 1 ∧ iv = .int .i64 (i : Int) ∧ hc.length = n ∧ Box wr g (hc.map hV) ∧ Each w0.heap.size w0 hc (sortA (xs.take i) ++ xs.drop i) ∧ Below w0.heap.size w0 wr) (fun iv _ _ => n + 1 - (intOf iv).toNat)
  case atStart => exact ⟨1, _, hs, rfl, by decide, by omega, rfl, HL0.out, hbx, HE0.out, B⟩
  case round =>
    clear hbx B HE0 HL0
    obtain ⟨i, wr, hc, rfl, hi0, hi1, rfl, hcl, hbx, hE, B⟩ := hrel
    by_cases hlt : i < n
    · have hd : decide (i < n) = true := decide_eq_true hlt
      have hgA := HAA.out (by omega)
      subst hgA
      obtain ⟨-, a, hx, rt, he, hal, h1, h2, h3⟩ := each_split (by have := HNN.out; omega) hE
      subst he
      have hix : i < xs.length := by have := HNN.out; omega
      obtain ⟨srt, hsl, -, hmem⟩ := sortA_facts xs i (by omega)
      have HI := Lib.hid (fun j hk => each_ins (n := w0.heap.size) (w := w0) (j := j) hix h1 h2 h3 hk)
      have HLen := Lib.hid (fun j h => at3_len a hx j rt h)
      have hXL := HXS.out _ (List.getElem_mem hix)
      have hX := h2.2 0 hx xs[i] rfl rfl
      obtain ⟨l, hle⟩ : ∃ l, sortA (xs.take i) = l := ⟨_, rfl⟩
      obtain ⟨x, hxe⟩ : ∃ x, xs[i] = x := ⟨_, rfl⟩
      rw [hle] at srt hsl hmem h1 HI
      rw [hxe] at hXL hX HI
      have HX := Lib.hid hX
      have HM : Hid (∀ y ∈ l, (spo y).length ≤ 100000) := Lib.hid fun y hy => HXS.out y (hmem y hy)
      have HS := Lib.hid srt
      have HEL := Lib.hid h1
      have HKL := Lib.hid (kIx_le x l)
      have HHN : Hid (a.length + 1 + rt.length = n) := Lib.hid (by rw [← hcl, at3_len a hx i rt (by omega)])
      have HHL := Lib.hid hal
      have HSL := Lib.hid hsl
      obtain ⟨⟨xA, xN, xK⟩, hxx⟩ : ∃ q, hx = q := ⟨_, rfl⟩
      subst hxx
      clear h1 h2 h3 hE srt hsl hmem hX hxe hle hcl hal
      go_wp2_with fail
      go_loopw [9] (fun jv wz => ∃ (j : Nat) (wq : World), wq = wz ∧ j ≤ i ∧ kIx x l ≤ j ∧ jv = .int .i64 (j : Int) ∧ Box wz g ((at3 a (xA, xN, xK) j rt).map hV) ∧ Below w0.heap.size w0 wz) (fun jv _ => (intOf jv).toNat)
      case atStart => exact ⟨i, _, rfl, Nat.le_refl _, by have := HKL.out; have := HSL.out; omega, rfl, hbx, B⟩
      case round =>
        clear hbx B
        obtain ⟨j, wz, rfl, hj, hkj, rfl, hbx, B⟩ := hrel
        cases j with
        | zero =>
          have HEX := Lib.hid (HI.out 0 (by omega))
          have HLN : Hid ((at3 a (xA, xN, xK) 0 rt).length = n) := Lib.hid (by rw [HLen.out 0 (by omega)]; exact HHN.out)
          obtain ⟨jv, hjv⟩ : ∃ jv : Int, ((0 : Nat) : Int) = jv := ⟨_, rfl⟩
          have hgt : decide (0 < jv) = false := by rw [← hjv]; rfl
          have hgw : g < wz.heap.size := World.block_lt_of_cell? wz ⟨g, 0, none⟩ (hbx.c 0 _ (at3_here a _ 0 rt (by omega)))
          rw [hjv]
          clear hjv hkj
          go_wp2_with fail
          refine wp_region_results (fun r i => ([.int .i64 jv, .int .i64 0, .bool false, .bool false, undef, undef, undef, undef, undef, undef, undef, undef, undef, undef, undef, undef, .bool false] : List Value).getD i undef) [] [0, 0, 0, 0, 0, 0, 0, 0, 0, 0, 0, 0, 0, 0, 0, 0, 0] (fun r q w' => (Below wz.heap.size wz w')) (by kernel_rfl) (by kernel_rfl) (fun r => ⟨rfl, rfl, rfl, Nat.le_refl _, fun _ _ => rfl⟩) ?_ ?_
          · refine ObsR_of_ends (by kernel_rfl) ?_
            intro r Fr hEA
            refine ⟨?_, ?_, ?_, ?_, ?_, ?_, ?_, ?_, ?_, ?_, ?_, ?_, ?_, ?_, ?_, ?_, ?_, trivial⟩
            · exact obR_move _ rfl (want_none rfl) (by kernel_rfl) (eval_out hEA (d := 9) (by kernel_rfl))
            · exact obR_move _ rfl (want_none rfl) (by kernel_rfl) (eval_out hEA (d := 1) (by kernel_rfl))
            · refine obR_val (want_none rfl) (by kernel_rfl) (fun ph w' hp hpm hw => ?_)
              have e18 : Fr.tmps[18]? = some (.int .i64 jv) := hEA.dst 0 _ 18 rfl rfl; have e19 : Fr.tmps[19]? = some (.int .i64 0) := hEA.dst 1 _ 19 rfl rfl; simp [execOp, e18, e19, hgt, go_sem]
            · exact obR_move _ rfl (want_none rfl) (by kernel_rfl) (eval_dst hEA (j := 2) rfl rfl)
            · exact obR_skip (want_is hEA (g := 3) (x := false) (b := true) rfl rfl rfl rfl) (by kernel_rfl) rfl
            · exact obR_skip (want_is hEA (g := 3) (x := false) (b := true) rfl rfl rfl rfl) (by kernel_rfl) rfl
            · exact obR_skip (want_is hEA (g := 3) (x := false) (b := true) rfl rfl rfl rfl) (by kernel_rfl) rfl
            · exact obR_skip (want_is hEA (g := 3) (x := false) (b := true) rfl rfl rfl rfl) (by kernel_rfl) rfl
            · exact obR_skip (want_is hEA (g := 3) (x := false) (b := true) rfl rfl rfl rfl) (by kernel_rfl) rfl
            · exact obR_skip (want_is hEA (g := 3) (x := false) (b := true) rfl rfl rfl rfl) (by kernel_rfl) rfl
            · exact obR_skip (want_is hEA (g := 3) (x := false) (b := true) rfl rfl rfl rfl) (by kernel_rfl) rfl
            · exact obR_skip (want_is hEA (g := 3) (x := false) (b := true) rfl rfl rfl rfl) (by kernel_rfl) rfl
            · exact obR_skip (want_is hEA (g := 3) (x := false) (b := true) rfl rfl rfl rfl) (by kernel_rfl) rfl
            · exact obR_skip (want_is hEA (g := 3) (x := false) (b := true) rfl rfl rfl rfl) (by kernel_rfl) rfl
            · exact obR_skip (want_is hEA (g := 3) (x := false) (b := true) rfl rfl rfl rfl) (by kernel_rfl) rfl
            · exact obR_skip (want_is hEA (g := 3) (x := false) (b := true) rfl rfl rfl rfl) (by kernel_rfl) rfl
            · refine obR_val (want_none rfl) (by kernel_rfl) (fun ph w' hp hpm hw => ?_)
              have e21 : Fr.tmps[21]? = some (.bool false) := hEA.dst 3 _ 21 rfl rfl; have e33 : Fr.tmps[33]? = some (undef) := hEA.dst 15 _ 33 rfl rfl; simp [execOp, e21, e33, go_sem]
          · intro r w' hw
            simp only [laid, Act.put, List.setIfInBounds_toArray, List.set_cons_succ, List.set_cons_zero, List.getD_cons_succ, List.getD_cons_zero, Nat.zero_add, Nat.reduceAdd]
            obtain ⟨wy, hwy⟩ : ∃ wy, w' = wy := ⟨_, rfl⟩
            rw [hwy] at hw
            rw [hwy]
            have hbx2 := hbx.below hw hgw
            have B2 := B.trans (hw.mono B.size)
            clear hw hwy hbx B
            go_wp2
            go_roundw
            case rel => exact ⟨i + 1, _, _, rfl, by omega, by omega, by go_num, HLN.out, hbx2, HEX.out, B2⟩
            case measure => simp [intOf]; omega
        | succ p =>
          obtain ⟨q, hq⟩ : ∃ q, p + 1 = q := ⟨_, rfl⟩
          have hpa : p < a.length := by have := HHL.out; omega
          have hpl : p < l.length := by have := HSL.out; omega
          have hgw : g < wz.heap.size := World.block_lt_of_cell? wz ⟨g, p + 1, none⟩ (hbx.c (p + 1) _ (at3_here a _ (p + 1) rt (by omega)))
          have k0 := hbx.c (p + 1) _ (at3_here a (xA, xN, xK) (p + 1) rt (by omega))
          have k1 := hbx.c p _ (at3_prev a (xA, xN, xK) p rt hpa)
          have K0 := Lib.hid (fun (wy : World) (h : Box wy g ((at3 a (xA, xN, xK) (p + 1) rt).map hV)) => h.c (p + 1) _ (at3_here a (xA, xN, xK) (p + 1) rt (by omega)))
          have K1 := Lib.hid (fun (wy : World) (h : Box wy g ((at3 a (xA, xN, xK) (p + 1) rt).map hV)) => h.c p _ (at3_prev a (xA, xN, xK) p rt hpa))
          have F0 := Lib.hid (fun (wy : World) (h : Box wy g ((at3 a (xA, xN, xK) (p + 1) rt).map hV)) => h.f (p + 1) (by rw [List.length_map, HLen.out (p + 1) (by omega)]; omega))
          have F1 := Lib.hid (fun (wy : World) (h : Box wy g ((at3 a (xA, xN, xK) (p + 1) rt).map hV)) => h.f p (by rw [List.length_map, HLen.out (p + 1) (by omega)]; omega))
          have HSW := Lib.hid (at3_swap a (xA, xN, xK) p rt hpa)
          have hY := each_at HEL.out p hpa hpl
          have hYL := HM.out _ (List.getElem_mem hpl)
          have hcn0 := srt_at (x := x) HS.out hpl
          obtain ⟨⟨yA, yN, yK⟩, hy⟩ : ∃ q, a[p] = q := ⟨_, rfl⟩
          obtain ⟨y, hye⟩ : ∃ y, l[p] = y := ⟨_, rfl⟩
          rw [hy] at k1 HSW hY K1
          rw [hye] at hY hYL hcn0
          have hcn := cmpO_neg x y
          rw [hcn0] at hcn
          simp only [hV] at k0 k1 K0 K1
          have HC := Lib.hid (fun (w' : World) (hw : Below wz.heap.size wz w') => cmpT_any (.slice xA xN xK) (.slice yA yN yK) x y w' (keeps_spots _ _ _ _ _ _ HX.out (B.trans (hw.mono B.size)) (B.trans (hw.mono B.size)).size) (keeps_spots _ _ _ _ _ _ hY (B.trans (hw.mono B.size)) (B.trans (hw.mono B.size)).size) hXL hYL)
          have hgt : decide (0 < q) = true := decide_eq_true (by omega)
          have hgt2 : (0 : Int) < (q : Int) := by omega
          have hwq : IntKind.i64.wrap ((q : Int) - 1) = (p : Int) := by rw [IntKind.wrap_i64]; omega
          have hwq2 : (q : Int) - 1 = (p : Int) := by omega
          have hiq : (q : Int) < (n : Int) := by omega
          have hgq : (0 : Int) ≤ (q : Int) := by omega
          have hip : (p : Int) < (n : Int) := by omega
          have hgp : (0 : Int) ≤ (p : Int) := by omega
          by_cases hkp : kIx x l ≤ p
          · rw [decide_eq_true hkp] at hcn
            have hpi : p ≤ i := by omega
            rw [hq] at k0 hbx HSW K0 K1 F0 F1
            rw [hq]
            clear hcn0 hY hy hye hYL hkj hq
            go_wp2_with fail
            refine wp_region_results (fun r i => ([.int .i64 (q : Int), .int .i64 0, .bool true, .bool true, .func (.func 36) #[] #[], .slice (some ⟨g, 0, none⟩) n cap, .int .i64 (q : Int), .pointer (some ⟨g, q, none⟩), .slice xA xN xK, .slice (some ⟨g, 0, none⟩) n cap, .int .i64 (q : Int), .int .i64 (p : Int), .pointer (some ⟨g, p, none⟩), .slice yA yN yK, .int .i64 (cmpO x y), .bool true, .bool true] : List Value).getD i undef) [14] [0, 0, 0, 0, 0, 0, 0, 0, 0, 0, 0, 0, 0, 0, 0, 1, 1] (fun r q w' => (Below wz.heap.size wz w')) (by kernel_rfl) (by kernel_rfl) (fun r => ⟨rfl, rfl, rfl, Nat.le_refl _, fun _ _ => rfl⟩) ?_ ?_
            · refine ObsR_of_ends (by kernel_rfl) ?_
              intro r Fr hEA
              refine ⟨?_, ?_, ?_, ?_, ?_, ?_, ?_, ?_, ?_, ?_, ?_, ?_, ?_, ?_, ?_, ?_, ?_, trivial⟩
              · exact obR_move _ rfl (want_none rfl) (by kernel_rfl) (eval_out hEA (d := 9) (by kernel_rfl))
              · exact obR_move _ rfl (want_none rfl) (by kernel_rfl) (eval_out hEA (d := 1) (by kernel_rfl))
              · refine obR_val (want_none rfl) (by kernel_rfl) (fun ph w' hp hpm hw => ?_)
                have e18 : Fr.tmps[18]? = some (.int .i64 (q : Int)) := hEA.dst 0 _ 18 rfl rfl; have e19 : Fr.tmps[19]? = some (.int .i64 0) := hEA.dst 1 _ 19 rfl rfl; simp [execOp, e18, e19, hgt, go_sem]
              · exact obR_move _ rfl (want_none rfl) (by kernel_rfl) (eval_dst hEA (j := 2) rfl rfl)
              · exact obR_move _ rfl (want_is hEA (g := 3) (x := true) (b := true) rfl rfl rfl rfl) (by kernel_rfl) (eval_out hEA (d := 3) (by kernel_rfl))
              · exact obR_move _ rfl (want_is hEA (g := 3) (x := true) (b := true) rfl rfl rfl rfl) (by kernel_rfl) (eval_out hEA (d := 0) (by kernel_rfl))
              · exact obR_move _ rfl (want_is hEA (g := 3) (x := true) (b := true) rfl rfl rfl rfl) (by kernel_rfl) (eval_out hEA (d := 9) (by kernel_rfl))
              · refine obR_val (want_is hEA (g := 3) (x := true) (b := true) rfl rfl rfl rfl) (by kernel_rfl) (fun ph w' hp hpm hw => ?_)
                have e23 : Fr.tmps[23]? = some (.slice (some ⟨g, 0, none⟩) n cap) := hEA.dst 5 _ 23 rfl rfl; have e24 : Fr.tmps[24]? = some (.int .i64 (q : Int)) := hEA.dst 6 _ 24 rfl rfl; simp [execOp, e23, e24, hiq, hgq, go_sem]
              · refine obR_val (want_is hEA (g := 3) (x := true) (b := true) rfl rfl rfl rfl) (by kernel_rfl) (fun ph w' hp hpm hw => ?_)
                have hc0 := (hw.cell (p := ⟨g, q, none⟩) hgw).trans k0
                have e25 : Fr.tmps[25]? = some (.pointer (some ⟨g, q, none⟩)) := hEA.dst 7 _ 25 rfl rfl; simp [execOp, e25, hc0, go_sem]
              · exact obR_move _ rfl (want_is hEA (g := 3) (x := true) (b := true) rfl rfl rfl rfl) (by kernel_rfl) (eval_out hEA (d := 0) (by kernel_rfl))
              · exact obR_move _ rfl (want_is hEA (g := 3) (x := true) (b := true) rfl rfl rfl rfl) (by kernel_rfl) (eval_out hEA (d := 9) (by kernel_rfl))
              · refine obR_val (want_is hEA (g := 3) (x := true) (b := true) rfl rfl rfl rfl) (by kernel_rfl) (fun ph w' hp hpm hw => ?_)
                have e28 : Fr.tmps[28]? = some (.int .i64 (q : Int)) := hEA.dst 10 _ 28 rfl rfl; simp [execOp, e28, hwq, go_sem]
              · refine obR_val (want_is hEA (g := 3) (x := true) (b := true) rfl rfl rfl rfl) (by kernel_rfl) (fun ph w' hp hpm hw => ?_)
                have e27 : Fr.tmps[27]? = some (.slice (some ⟨g, 0, none⟩) n cap) := hEA.dst 9 _ 27 rfl rfl; have e29 : Fr.tmps[29]? = some (.int .i64 (p : Int)) := hEA.dst 11 _ 29 rfl rfl; simp [execOp, e27, e29, hip, hgp, go_sem]
              · refine obR_val (want_is hEA (g := 3) (x := true) (b := true) rfl rfl rfl rfl) (by kernel_rfl) (fun ph w' hp hpm hw => ?_)
                have hc0 := (hw.cell (p := ⟨g, p, none⟩) hgw).trans k1
                have e30 : Fr.tmps[30]? = some (.pointer (some ⟨g, p, none⟩)) := hEA.dst 12 _ 30 rfl rfl; simp [execOp, e30, hc0, go_sem]
              · refine obR_call (q := 0) (f := 36) (args := #[.slice xA xN xK, .slice yA yN yK]) (want_is hEA (g := 3) (x := true) (b := true) rfl rfl rfl rfl) (by kernel_rfl) (fun w' => by have e22 : Fr.tmps[22]? = some (.func (.func 36) #[] #[]) := hEA.dst 4 _ 22 rfl rfl; have e26 : Fr.tmps[26]? = some (.slice xA xN xK) := hEA.dst 8 _ 26 rfl rfl; have e31 : Fr.tmps[31]? = some (.slice yA yN yK) := hEA.dst 13 _ 31 rfl rfl; simp [e22, e26, e31, go_sem]) ?_
                intro w' hw
                refine (HC.out w' hw).mono ?_
                rintro e w2 ⟨rfl, hb⟩
                exact ⟨_, rfl, fun r' hr hv => ⟨rfl, hw.trans (hb.mono hw.size)⟩⟩
              · refine obR_val (want_is hEA (g := 3) (x := true) (b := true) rfl rfl rfl rfl) (by kernel_rfl) (fun ph w' hp hpm hw => ?_)
                have e32 : Fr.tmps[32]? = some (.int .i64 (cmpO x y)) := hEA.dst 14 _ 32 rfl rfl; simp [execOp, e32, hcn, go_sem]
              · refine obR_val (want_none rfl) (by kernel_rfl) (fun ph w' hp hpm hw => ?_)
                have e21 : Fr.tmps[21]? = some (.bool true) := hEA.dst 3 _ 21 rfl rfl; have e33 : Fr.tmps[33]? = some (.bool true) := hEA.dst 15 _ 33 rfl rfl; simp [execOp, e21, e33, go_sem]
            · intro r w' hw
              simp only [laid, Act.put, List.setIfInBounds_toArray, List.set_cons_succ, List.set_cons_zero, List.getD_cons_succ, List.getD_cons_zero, Nat.zero_add, Nat.reduceAdd]
              obtain ⟨wy, hwy⟩ : ∃ wy, w' = wy := ⟨_, rfl⟩
              rw [hwy] at hw
              rw [hwy]
              have hbx2 := hbx.below hw hgw
              have B2 := B.trans (hw.mono B.size)
              clear hw hwy hbx B
              have c0 := K0.out wy hbx2
              have c1 := K1.out wy hbx2
              clear k0 k1
              have f0 := F0.out wy hbx2
              have f1 := F1.out wy hbx2
              go_wp2_with fail
              go_region
              have hbx3 : Hid (Box (((wy.setCell ⟨g, q, none⟩ (.slice yA yN yK)).setCell ⟨g, p, none⟩ (.slice xA xN xK)).drew) g ((at3 a (xA, xN, xK) p rt).map hV)) := Lib.hid (by
                have h := (hbx2.put q (.slice yA yN yK)).put p (.slice xA xN xK)
                rw [HSW.out] at h
                exact h.keep rfl)
              have B3 : Below w0.heap.size w0 (((wy.setCell ⟨g, q, none⟩ (.slice yA yN yK)).setCell ⟨g, p, none⟩ (.slice xA xN xK)).drew) := ((B2.setCell (p := ⟨g, q, none⟩) hg _).setCell (p := ⟨g, p, none⟩) hg _).trans ⟨rfl, rfl, rfl, Nat.le_refl _, fun _ _ => rfl⟩
              clear c0 c1 f0 f1 hbx2 B2
              go_wp2
              go_roundw
              case rel => exact ⟨p, _, rfl, hpi, hkp, by go_num, hbx3.out, B3⟩
              case measure => simp [intOf]; omega
          · rw [decide_eq_false hkp] at hcn
            have HEX := Lib.hid (HI.out (p + 1) (by omega))
            have HLN : Hid ((at3 a (xA, xN, xK) (p + 1) rt).length = n) := Lib.hid (by rw [HLen.out (p + 1) (by omega)]; exact HHN.out)
            rw [hq] at k0 hbx HSW HEX HLN
            rw [hq]
            clear hcn0 hY hy hye hYL hkj hkp hq
            go_wp2_with fail
            refine wp_region_results (fun r i => ([.int .i64 (q : Int), .int .i64 0, .bool true, .bool true, .func (.func 36) #[] #[], .slice (some ⟨g, 0, none⟩) n cap, .int .i64 (q : Int), .pointer (some ⟨g, q, none⟩), .slice xA xN xK, .slice (some ⟨g, 0, none⟩) n cap, .int .i64 (q : Int), .int .i64 (p : Int), .pointer (some ⟨g, p, none⟩), .slice yA yN yK, .int .i64 (cmpO x y), .bool false, .bool false] : List Value).getD i undef) [14] [0, 0, 0, 0, 0, 0, 0, 0, 0, 0, 0, 0, 0, 0, 0, 1, 1] (fun r q w' => (Below wz.heap.size wz w')) (by kernel_rfl) (by kernel_rfl) (fun r => ⟨rfl, rfl, rfl, Nat.le_refl _, fun _ _ => rfl⟩) ?_ ?_
            · refine ObsR_of_ends (by kernel_rfl) ?_
              intro r Fr hEA
              refine ⟨?_, ?_, ?_, ?_, ?_, ?_, ?_, ?_, ?_, ?_, ?_, ?_, ?_, ?_, ?_, ?_, ?_, trivial⟩
              · exact obR_move _ rfl (want_none rfl) (by kernel_rfl) (eval_out hEA (d := 9) (by kernel_rfl))
              · exact obR_move _ rfl (want_none rfl) (by kernel_rfl) (eval_out hEA (d := 1) (by kernel_rfl))
              · refine obR_val (want_none rfl) (by kernel_rfl) (fun ph w' hp hpm hw => ?_)
                have e18 : Fr.tmps[18]? = some (.int .i64 (q : Int)) := hEA.dst 0 _ 18 rfl rfl; have e19 : Fr.tmps[19]? = some (.int .i64 0) := hEA.dst 1 _ 19 rfl rfl; simp [execOp, e18, e19, hgt, go_sem]
              · exact obR_move _ rfl (want_none rfl) (by kernel_rfl) (eval_dst hEA (j := 2) rfl rfl)
              · exact obR_move _ rfl (want_is hEA (g := 3) (x := true) (b := true) rfl rfl rfl rfl) (by kernel_rfl) (eval_out hEA (d := 3) (by kernel_rfl))
              · exact obR_move _ rfl (want_is hEA (g := 3) (x := true) (b := true) rfl rfl rfl rfl) (by kernel_rfl) (eval_out hEA (d := 0) (by kernel_rfl))
              · exact obR_move _ rfl (want_is hEA (g := 3) (x := true) (b := true) rfl rfl rfl rfl) (by kernel_rfl) (eval_out hEA (d := 9) (by kernel_rfl))
              · refine obR_val (want_is hEA (g := 3) (x := true) (b := true) rfl rfl rfl rfl) (by kernel_rfl) (fun ph w' hp hpm hw => ?_)
                have e23 : Fr.tmps[23]? = some (.slice (some ⟨g, 0, none⟩) n cap) := hEA.dst 5 _ 23 rfl rfl; have e24 : Fr.tmps[24]? = some (.int .i64 (q : Int)) := hEA.dst 6 _ 24 rfl rfl; simp [execOp, e23, e24, hiq, hgq, go_sem]
              · refine obR_val (want_is hEA (g := 3) (x := true) (b := true) rfl rfl rfl rfl) (by kernel_rfl) (fun ph w' hp hpm hw => ?_)
                have hc0 := (hw.cell (p := ⟨g, q, none⟩) hgw).trans k0
                have e25 : Fr.tmps[25]? = some (.pointer (some ⟨g, q, none⟩)) := hEA.dst 7 _ 25 rfl rfl; simp [execOp, e25, hc0, go_sem]
              · exact obR_move _ rfl (want_is hEA (g := 3) (x := true) (b := true) rfl rfl rfl rfl) (by kernel_rfl) (eval_out hEA (d := 0) (by kernel_rfl))
              · exact obR_move _ rfl (want_is hEA (g := 3) (x := true) (b := true) rfl rfl rfl rfl) (by kernel_rfl) (eval_out hEA (d := 9) (by kernel_rfl))
              · refine obR_val (want_is hEA (g := 3) (x := true) (b := true) rfl rfl rfl rfl) (by kernel_rfl) (fun ph w' hp hpm hw => ?_)
                have e28 : Fr.tmps[28]? = some (.int .i64 (q : Int)) := hEA.dst 10 _ 28 rfl rfl; simp [execOp, e28, hwq, go_sem]
              · refine obR_val (want_is hEA (g := 3) (x := true) (b := true) rfl rfl rfl rfl) (by kernel_rfl) (fun ph w' hp hpm hw => ?_)
                have e27 : Fr.tmps[27]? = some (.slice (some ⟨g, 0, none⟩) n cap) := hEA.dst 9 _ 27 rfl rfl; have e29 : Fr.tmps[29]? = some (.int .i64 (p : Int)) := hEA.dst 11 _ 29 rfl rfl; simp [execOp, e27, e29, hip, hgp, go_sem]
              · refine obR_val (want_is hEA (g := 3) (x := true) (b := true) rfl rfl rfl rfl) (by kernel_rfl) (fun ph w' hp hpm hw => ?_)
                have hc0 := (hw.cell (p := ⟨g, p, none⟩) hgw).trans k1
                have e30 : Fr.tmps[30]? = some (.pointer (some ⟨g, p, none⟩)) := hEA.dst 12 _ 30 rfl rfl; simp [execOp, e30, hc0, go_sem]
              · refine obR_call (q := 0) (f := 36) (args := #[.slice xA xN xK, .slice yA yN yK]) (want_is hEA (g := 3) (x := true) (b := true) rfl rfl rfl rfl) (by kernel_rfl) (fun w' => by have e22 : Fr.tmps[22]? = some (.func (.func 36) #[] #[]) := hEA.dst 4 _ 22 rfl rfl; have e26 : Fr.tmps[26]? = some (.slice xA xN xK) := hEA.dst 8 _ 26 rfl rfl; have e31 : Fr.tmps[31]? = some (.slice yA yN yK) := hEA.dst 13 _ 31 rfl rfl; simp [e22, e26, e31, go_sem]) ?_
                intro w' hw
                refine (HC.out w' hw).mono ?_
                rintro e w2 ⟨rfl, hb⟩
                exact ⟨_, rfl, fun r' hr hv => ⟨rfl, hw.trans (hb.mono hw.size)⟩⟩
              · refine obR_val (want_is hEA (g := 3) (x := true) (b := true) rfl rfl rfl rfl) (by kernel_rfl) (fun ph w' hp hpm hw => ?_)
                have e32 : Fr.tmps[32]? = some (.int .i64 (cmpO x y)) := hEA.dst 14 _ 32 rfl rfl; simp [execOp, e32, hcn, go_sem]
              · refine obR_val (want_none rfl) (by kernel_rfl) (fun ph w' hp hpm hw => ?_)
                have e21 : Fr.tmps[21]? = some (.bool true) := hEA.dst 3 _ 21 rfl rfl; have e33 : Fr.tmps[33]? = some (.bool false) := hEA.dst 15 _ 33 rfl rfl; simp [execOp, e21, e33, go_sem]
            · intro r w' hw
              simp only [laid, Act.put, List.setIfInBounds_toArray, List.set_cons_succ, List.set_cons_zero, List.getD_cons_succ, List.getD_cons_zero, Nat.zero_add, Nat.reduceAdd]
              obtain ⟨wy, hwy⟩ : ∃ wy, w' = wy := ⟨_, rfl⟩
              rw [hwy] at hw
              rw [hwy]
              have hbx2 := hbx.below hw hgw
              have B2 := B.trans (hw.mono B.size)
              clear hw hwy hbx B
              go_wp2
              go_roundw
              case rel => exact ⟨i + 1, _, _, rfl, by omega, by omega, by go_num, HLN.out, hbx2, HEX.out, B2⟩
              case measure => simp [intOf]; omega
    · have hd : decide (i < n) = false := decide_eq_false hlt
      have HR : Hid (Each w0.heap.size w0 hc (sortA xs)) := Lib.hid (by
        rw [List.take_of_length_le (by have := HNN.out; omega), List.drop_of_length_le (by have := HNN.out; omega), List.append_nil] at hE
        exact hE)
      clear hE
      go_wp2
      go_end0
      exact ⟨⟨_, rfl⟩, hc, hcl, hbx, HR.out, B⟩
set_option maxHeartbeats 4000000 in
theorem stableH_any (A : Option Addr) (g n cap : Nat) (hs : List Hd) (xs : List (Option Tr)) (w0 w : World) (hA : 0 < n → A = some ⟨g, 0, none⟩) (hbx : Box w g (hs.map hV)) (hg : w0.heap.size ≤ g) (hn : xs.length = n) (hn8 : n ≤ 12) (hE : Each w0.heap.size w0 hs xs) (B : Below w0.heap.size w0 w) (hx : ∀ x ∈ xs, (spo x).length ≤ 100000) :
    Calls Try.prog 63 #[.slice A n cap, .int .i64 (n : Int), .func (.func 36) #[] #[]] w fun e W' => (∃ v, e = .returned v) ∧ ∃ hs', hs'.length = n ∧ Box W' g (hs'.map hV) ∧ Each w0.heap.size w0 hs' (sortA xs) ∧ Below w0.heap.size w0 W' := by
  have H := Lib.hid (insH_any A g n cap hs xs w0 w hA hbx hg hn (by omega) hE B hx)
  have hd1 : decide ((20 : Int) ≤ (n : Int)) = false := decide_eq_false (by omega)
  have hd2 : decide ((20 : Int) < (n : Int)) = false := decide_eq_false (by omega)
  have hd3 : decide (20 ≤ n) = false := decide_eq_false (by omega)
  have hd4 : decide (20 < n) = false := decide_eq_false (by omega)
  clear hA hbx hg hn hn8 hE B hx
  go_enter Try.func63, Try.ntmps63
  go_wp2_with fail
  go_loopw [7, 8] (fun a b wr => a = .int .i64 0 ∧ b = .int .i64 20 ∧ wr = w) (fun _ _ _ => 0)
  case atStart => exact ⟨rfl, rfl, rfl⟩
  case round =>
    obtain ⟨rfl, rfl, rfl⟩ := hrel
    go_wp2_with fail
    refine H.out.mono ?_
    rintro e W1 ⟨⟨v, rfl⟩, hs', h1, h2, h3, h4⟩
    have HR : Hid (hs'.length = n ∧ Box W1 g (hs'.map hV) ∧ Each w0.heap.size w0 hs' (sortA xs) ∧ Below w0.heap.size w0 W1) := Lib.hid ⟨h1, h2, h3, h4⟩
    clear h1 h2 h3 h4 H
    go_wp2_with fail
    go_loopw [6, 7, 8, 9] (fun a b c d wr => a = .int .i64 20 ∧ wr = W1) (fun _ _ _ _ _ => 0)
    case atStart => exact ⟨rfl, rfl⟩
    case round =>
      obtain ⟨rfl, rfl⟩ := hrel
      go_wp2
      go_end0
      exact ⟨⟨_, rfl⟩, hs', HR.out⟩
set_option maxHeartbeats 1000000 in
theorem sortStableH_any (A : Option Addr) (g n cap : Nat) (hs : List Hd) (xs : List (Option Tr)) (w0 w : World) (hA : 0 < n → A = some ⟨g, 0, none⟩) (hbx : Box w g (hs.map hV)) (hg : w0.heap.size ≤ g) (hn : xs.length = n) (hn8 : n ≤ 12) (hE : Each w0.heap.size w0 hs xs) (B : Below w0.heap.size w0 w) (hx : ∀ x ∈ xs, (spo x).length ≤ 100000) :
    Calls Try.prog 44 #[.slice A n cap, .func (.func 36) #[] #[]] w fun e W' => (∃ v, e = .returned v) ∧ ∃ hs', hs'.length = n ∧ Box W' g (hs'.map hV) ∧ Each w0.heap.size w0 hs' (sortA xs) ∧ Below w0.heap.size w0 W' := by
  have H := Lib.hid (stableH_any A g n cap hs xs w0 w hA hbx hg hn hn8 hE B hx)
  clear hA hbx hg hn hn8 hE B hx
  go_enter Try.func44, Try.ntmps44
  go_wp2_with fail
  refine H.out.mono ?_
  rintro e W1 ⟨⟨v, rfl⟩, hs', h1, h2, h3, h4⟩
  have HR : Hid (hs'.length = n ∧ Box W1 g (hs'.map hV) ∧ Each w0.heap.size w0 hs' (sortA xs) ∧ Below w0.heap.size w0 W1) := Lib.hid ⟨h1, h2, h3, h4⟩
  clear h1 h2 h3 h4 H
  go_wp2
  go_end0
  exact ⟨⟨_, rfl⟩, hs', HR.out⟩
theorem box_heads {w : World} {g cap : Nat} {hs : List Hd} (h : Box w g (hs.map hV)) (hc : hs.length ≤ cap) (hm : cap ≤ maxLen) : Heads w.heap.size w hs [.slice (some ⟨g, 0, none⟩) hs.length cap] :=
  ⟨some ⟨g, 0, none⟩, cap, rfl, hc, hm, (fun h => by cases h), fun hp => ⟨g, 0, rfl, World.block_lt_of_cell? w ⟨g, 0, none⟩ (h.c 0 (hV hs[0]) (by rw [List.getElem?_map, List.getElem?_eq_getElem hp]; rfl)), fun i hi => ⟨hC hs[i], rfl, fun j hj => by
    have : j = 0 := by omega
    subst this
    have := h.c i (hV hs[i]) (by rw [List.getElem?_map, List.getElem?_eq_getElem hi]; rfl)
    simpa using this, rfl⟩⟩⟩
set_option maxHeartbeats 4000000 in
theorem sortedH_any (Bs : Nat) (hs : List Hd) (xs : List (Option Tr)) (v : Value) (w : World) (hBs : Bs < w.heap.size) (hv : Heads w.heap.size w hs [v]) (hB : w.cell? ⟨Bs, 0, none⟩ = some v) (hn8 : xs.length ≤ 12) (hE : Each w.heap.size w hs xs) (hx : ∀ x ∈ xs, (spo x).length ≤ 100000) :
    Calls Try.prog 34 #[.func (.func 45) #[] #[.pointer (some ⟨Bs, 0, none⟩)], .func (.func 36) #[] #[]] w fun e W' => ∃ v' hs', e = .returned v' ∧ Heads W'.heap.size W' hs' [v'] ∧ Each W'.heap.size W' hs' (sortA xs) ∧ Below w.heap.size w W' := by
  have hl : hs.length = xs.length := hE.1
  have HC := Lib.hid (collectH_any Bs hs v (by omega) w hBs hv hB)
  have HE := Lib.hid hE
  have HL := Lib.hid hl
  have HX := Lib.hid hx
  clear hv hB hE hl hx
  go_enter Try.func34, Try.ntmps34
  go_wp2_with fail
  refine HC.out.mono ?_
  rintro e W1 ⟨v1, rfl, ho, hb⟩
  obtain ⟨A, g, cap, hve, hN, hA, hbx, hg, hc, hm⟩ : ∃ A g cap, v1 = .slice A hs.length cap ∧ (A = none → cap = 0) ∧ (0 < hs.length → A = some ⟨g, 0, none⟩) ∧ Box W1 g (hs.map hV) ∧ w.heap.size ≤ g ∧ hs.length ≤ cap ∧ cap ≤ maxLen := by
    rcases ho.2 with ⟨h1, h2⟩ | ⟨g, cap, cur, h1, h2, h3, h4, h5, h6, h7⟩
    · have : hs = [] := List.eq_nil_of_length_eq_zero h2
      subst this
      exact ⟨none, w.heap.size, 0, h1, (fun _ => rfl), (fun h => absurd h (by simp)), ⟨fun i v h => by simp at h, fun i h => by simp at h⟩, Nat.le_refl _, Nat.le_refl _, Nat.zero_le _⟩
    · refine ⟨some ⟨g, 0, none⟩, g, cap, h1, (fun h => by cases h), fun _ => rfl, ⟨fun i u hi => ?_, fun i hi => ?_⟩, h2, h4, h5⟩
      · rw [← h7, List.getElem?_take] at hi
        split at hi
        · simpa [World.cell?, h3] using hi
        · cases hi
      · simp [World.frozen?, h3]
  subst hve
  have HS := Lib.hid (sortStableH_any A g hs.length cap hs xs w W1 hA hbx hg HL.out.symm (by have := HL.out; omega) HE.out hb HX.out)
  have HA := Lib.hid hA
  clear ho hbx HC hb hA
  go_wp2_with fail
  refine HS.out.mono ?_
  rintro e W2 ⟨⟨v, rfl⟩, hs', h1, h2, h3, h4⟩
  have HR : Hid (Heads W2.heap.size W2 hs' [.slice A hs.length cap] ∧ Each W2.heap.size W2 hs' (sortA xs) ∧ Below w.heap.size w W2) := Lib.hid (by
    refine ⟨?_, h3.keep h4 h4.size, h4⟩
    rcases Nat.eq_zero_or_pos hs.length with h0 | hp
    · have e1 : hs' = [] := List.eq_nil_of_length_eq_zero (h1.trans h0)
      subst e1
      rw [h0]
      exact ⟨A, cap, rfl, Nat.zero_le _, hm, hN, fun h => absurd h (by simp)⟩
    · rw [HA.out hp, ← h1]
      exact box_heads h2 (by omega) hm)
  clear h1 h2 h3 h4 HS
  go_wp2
  go_ret
  exact ⟨_, hs', rfl, HR.out⟩

end Go.Proofs.Ytkmlnglmecjmeaa
