import Derived.Test.YtlmkgkfildgkgaaLabO
/- The document's Way and Same of layer 10. Condition: the slices read as a tree's spots, or nothing's, of at most a million, at most 60 high; as labels, of at most a million. -/
namespace Go.Proofs.Ytlmkgkfildgkgaa
open Go Go.RowKit
set_option linter.unusedVariables false

/-- A label of any parameter. -/
theorem opens_L : Opens Try.prog 24 IsM := fun enc w fuel cs x h => by
  obtain ⟨⟨a, b, c⟩, ha, hb, hc⟩ := opens_struct (R := Both 1 (IsInt .i64) (Both 1 (IsInt .i64) Nought)) Try.underlying24 (by kernel_rfl) (opensF_cons rfl (by kernel_rfl) (opens_int Try.underlying3) (opensF_cons rfl (by kernel_rfl) (opens_int Try.underlying3) (opensF_nil 2))) enc w fuel cs x h
  refine ⟨(a, b), ?_⟩
  match cs, ha, hb, hc with
  | [u, v], ha, hb, hc => 
    simp [IsInt] at ha hb
    show _ = _
    rw [ha.1, hb.1]
abbrev infoLt : Prop := (Try.prog.info? 24).map (fun i => (i.zero, i.size, i.bytes)) = some (some (.agg #[.int .i64 0, .int .i64 0]), 2, 16)
theorem infoL : infoLt := by unfold infoLt; kernel_rfl
/-- append onto labels of one's own. -/
theorem append_labs {ops : Array Oper} {rest : List Oper} {o : Oper} {a : Act} {Q : Exit → Act → World → Prop} (w : World) (hw : Region.wanted o (yielded ops a.tmps) = true) (so x : Operand)
    (ho : o.op = .call { callee := .builtin .append, args := #[so, x], argTypes := #[32, 32] })
    (base : Nat) (v : Value) (n : Nat) (ys : List Value) (hv : a.eval so = v) (hown : w.ownsRow base 24 2 v n ys)
    (n₀ : Nat) (V : Value) (xs : List (Int × Int)) (hx : a.eval x = V) (hL : Mems n₀ w xs [V]) (hb : n + xs.length ≤ 4000000) (hbase : base ≤ w.heap.size)
    (h : ∀ v' w', w'.ownsRow base 24 2 v' (n + xs.length) (ys ++ xs.flatMap mC) → w.grownBy w' v.ownBlock → wpList Try.prog ops Q rest (a.put o.dst v') w') : wpList Try.prog ops Q (o :: rest) a w :=
  append_slice (enc := mC) (s := 2) (R := IsM) (fun _ _ _ _ h => h) (by decide) (fun _ => rfl) oneM Try.underlying32 infoL rfl w hw so x ho base v n ys hv hown n₀ V xs hx hL (Nat.le_trans hb (by decide)) (by omega) hbase h
theorem own_labs {w : World} {base : Nat} {v : Value} {xs : List (Int × Int)} (h : w.ownsRow base 24 2 v xs.length (xs.flatMap mC)) : Mems w.heap.size w xs [v] := own_reads (enc := mC) (s := 2) (R := IsM) (fun _ _ _ => rfl) (by decide) (fun _ => rfl) h
def lenOf : Value → Nat
  | .slice _ n _ => n
  | _ => 0
theorem lenOf_owns {w : World} {base : Nat} {e : TypeId} {s : Nat} {v : Value} {n : Nat} {ys : List Value} (h : w.ownsRow base e s v n ys) : lenOf v = n := by
  rcases h.2 with ⟨rfl, rfl⟩ | ⟨g, cap, cur, rfl, _⟩ <;> rfl
/-- What owning a row keeps while two cells ahead of it are set. -/
theorem owns_sets {w : World} {base : Nat} {e : TypeId} {s : Nat} {v : Value} {n : Nat} {ys : List Value} (h : w.ownsRow base e s v n ys) (G : Nat) (hG : G < base) (a b : Value) : ((w.setCell ⟨G, 0, none⟩ a).setCell ⟨G, 1, none⟩ b).ownsRow base e s v n ys :=
  owns_block h fun g hg => by
    have := (owns_own h g hg).1
    rw [Below.heap_setCell _ _ _ _ (show g ≠ G by omega), Below.heap_setCell _ _ _ _ (show g ≠ G by omega)]
/-- The j-th label of a way. -/
def lx (n i j : Nat) : Int × Int := if j ≤ n then (((n - j : Nat) : Int), ((i / 2 ^ j : Nat) : Int)) else (0, 0)
theorem lx_nought (n i : Nat) : lx n i 0 = ((n : Int), (i : Int)) := by simp [lx]
theorem lx_up {n i j : Nat} (hn : n ≤ 60) (hi : i < 2 ^ n) (hj : j ≤ n) : upL (lx n i j).1 (lx n i j).2 = (lx n i (j + 1), decide (j + 1 ≤ n)) := by
  have hq : i / 2 ^ j < 2 ^ (n - j) := by
    rw [Nat.div_lt_iff_lt_mul (Nat.two_pow_pos j), ← Nat.pow_add]
    rwa [show n - j + j = n by omega]
  simp only [lx, if_pos hj]
  by_cases h : j + 1 ≤ n
  · rw [if_pos h, decide_eq_true h]
    have := upL_yes (k := n - j - 1) (i := i / 2 ^ j) (by omega) (by rwa [show n - j - 1 + 1 = n - j by omega])
    rw [show n - j - 1 + 1 = n - j by omega] at this
    rw [this, Nat.div_div_eq_div_mul, Nat.pow_succ]
    congr 3
  · rw [if_neg h, decide_eq_false h]
    have : n - j = 0 := by omega
    rw [this]
    simp [upL]
theorem ups_take (n i j : Nat) (hj : j ≤ n) : (ups n i).take (j + 1) = (ups n i).take j ++ [lx n i j] := by
  have hl := ups_length n i
  rw [List.take_succ_eq_append_getElem (by omega), ups_get]
  simp [lx, hj]

set_option maxRecDepth 100000 in
set_option maxHeartbeats 8000000 in
theorem refWay_any (v : Value) (ot : Option Tr) (m1 m2 : Int) (w : World) (h : Spots w.heap.size w (spo ot) [v]) (hn : (spo ot).length ≤ 1000000) (hh : htO ot ≤ 60) :
    Calls Try.prog 23 #[v, vM m1 m2] w fun e W' => ∃ v', e = .returned v' ∧ Mems W'.heap.size W' (wayO ot (m1, m2)) [v'] ∧ Below w.heap.size w W' := by
  have HX := Lib.hid h
  have KO : Hid (∀ w, Spots w.heap.size w (spo ot) [v] → Calls Try.prog 14 #[v, vM m1 m2] w fun e W' => e = .returned (.tuple #[vM (ofO ot (m1, m2)).1.1 (ofO ot (m1, m2)).1.2, .bool (ofO ot (m1, m2)).2]) ∧ Below w.heap.size w W') := Lib.hid fun w h => by
    cases ot with
    | none => exact refOf_nil v m1 m2 w h
    | some t => exact refOf_flat t v m1 m2 w h hn hh
  clear h
  go_enter Try.func23, Try.ntmps23
  go_wp2_with fail
  obtain ⟨W0, hW0, b0, B⟩ : ∃ W0, w.alloc (.cells #[.int .i64 m1, .int .i64 m2] 26) = W0 ∧ Box W0 w.heap.size [.int .i64 m1, .int .i64 m2] ∧ Below w.heap.size w W0 := ⟨_, rfl, Box.new w _ _, below_new _ _⟩
  rw [hW0]
  clear hW0
  refine (KO.out W0 (keeps_spots _ _ _ _ _ _ HX.out B B.size)).mono ?_
  rintro e W1 ⟨rfl, hb⟩
  replace B := B.trans (hb.mono B.size)
  clear hb b0
  cases hof : offO ot (m1, m2) with
  | none =>
    have HP := Lib.hid (ofO_none hof)
    have HU : Hid (wayO ot (m1, m2) = []) := Lib.hid (by simp [wayO, hof])
    rw [HP.out]
    clear hof
    go_wp2_with fail
    obtain ⟨W2, hW2, hb⟩ : ∃ W2, W1.alloc (.cells #[.int .i64 0, .int .i64 0] 24) = W2 ∧ Below W1.heap.size W1 W2 := ⟨_, rfl, below_new _ _⟩
    rw [hW2]
    clear hW2
    replace B := B.trans (hb.mono B.size)
    clear hb
    go_loop [6, 7] (fun ok u => ok = .bool false ∧ u = .slice none 0 0) (fun _ _ => 0)
    case atStart => exact ⟨rfl, rfl⟩
    case round =>
      obtain ⟨rfl, rfl⟩ := hrel
      go_wp2
      go_ret
      rw [HU.out]
      exact ⟨_, rfl, own_labs (xs := []) (World.ownsRow_nil _ w.heap.size _ _), B⟩
  | some p =>
    have HP := Lib.hid (ofO_some hof)
    have HU : Hid (wayO ot (m1, m2) = ups p.length (idx p)) := Lib.hid (by simp [wayO, hof])
    have hp60 : p.length ≤ 60 := by
      cases ot with
      | none => cases hof
      | some t =>
        have := off_high hof
        have hh2 : ht t ≤ 60 := hh
        omega
    have hil := idx_lt p
    rw [HP.out]
    have hlab : labOf p = lx p.length (idx p) 0 := by rw [lx_nought]; rfl
    rw [hlab]
    clear hof hlab
    obtain ⟨n, hnn⟩ : ∃ n, p.length = n := ⟨_, rfl⟩
    obtain ⟨i, hii⟩ : ∃ i, idx p = i := ⟨_, rfl⟩
    rw [hnn, hii] at HU hil
    rw [hnn] at hp60
    rw [hnn, hii]
    have HUP := Lib.hid (fun j (hj : j ≤ n) => lx_up (i := i) hp60 hil hj)
    clear hnn hii hil
    go_wp2_with fail
    obtain ⟨W2, hW2, b9, hb⟩ : ∃ W2, W1.alloc (.cells #[.int .i64 (lx n i 0).1, .int .i64 (lx n i 0).2] 24) = W2 ∧ Box W2 W1.heap.size [.int .i64 (lx n i 0).1, .int .i64 (lx n i 0).2] ∧ Below W1.heap.size W1 W2 := ⟨_, rfl, Box.new W1 _ _, below_new _ _⟩
    rw [hW2]
    clear hW2
    obtain ⟨G, hG⟩ : ∃ G, W1.heap.size = G := ⟨_, rfl⟩
    rw [hG] at b9
    rw [hG]
    have hGw : w.heap.size ≤ G := by rw [← hG]; exact B.size
    replace B := B.trans (hb.mono B.size)
    have hG2 : G < W2.heap.size := b9.lt
    clear hb hG
    go_loopw [6, 7] (fun ok u wr => ∃ (j : Nat) (wq : World) (uq : Value), wq = wr ∧ uq = u ∧ j ≤ n + 1 ∧ ok = .bool (decide (j ≤ n)) ∧ Box wr G [.int .i64 (lx n i j).1, .int .i64 (lx n i j).2] ∧ wr.ownsRow (G + 1) 24 2 u j (((ups n i).take j).flatMap mC) ∧ G + 1 ≤ wr.heap.size ∧ Below w.heap.size w wr) (fun _ u _ => 70 - lenOf u)
    case atStart => exact ⟨0, _, _, rfl, rfl, Nat.zero_le _, rfl, b9, World.ownsRow_nil _ _ _ _, hG2, B⟩
    case round =>
      obtain ⟨j, wr, u, rfl, rfl, hj, rfl, bx, hown, hgs, B2⟩ := hrel
      by_cases hjn : j ≤ n
      · have hd : decide (j ≤ n) = true := decide_eq_true hjn
        have HK := Lib.hid (ups_take n i j hjn)
        have HLU := Lib.hid (lenOf_owns hown)
        have HUJ := Lib.hid (HUP.out j hjn)
        obtain ⟨⟨x, y⟩, hxy⟩ : ∃ q, lx n i j = q := ⟨_, rfl⟩
        rw [hxy] at bx HK HUJ
        have x0 := bx.c 0 _ rfl
        have x1 := bx.c 1 _ rfl
        clear hxy
        go_wp2_with (at_builtin; refine append_labs _ rfl _ _ rfl (G + 1) _ _ _ rfl (hown.alloc _) _ _ _ rfl (one_mem _ x y _ _ (by simp)) ?c1 ?c2 ?_)
        case c1 => (try simp); omega
        case c2 => (try simp); omega
        intro v' w' hown' hgr
        have bx2 := (bx.next (below_new wr (.cells #[.int .i64 x, .int .i64 y] 24))).keep (hgr.block G (by simp; omega) (fun e => by have := (hown.lt _ e.symm).1; omega))
        have B3 := (B2.alloc B2.size (.cells #[.int .i64 x, .int .i64 y] 24)).grown hgr (by have := B2.size; simp; omega) (fun k hk => by have := (hown.lt k hk).1; omega)
        have hgs2 : G + 1 ≤ w'.heap.size := by have := hgr.size; simp at this; omega
        have x0 := bx2.c 0 _ rfl
        have x1 := bx2.c 1 _ rfl
        clear bx hown hgr B2
        go_wp2_with fail
        refine (refUp_any x y w').mono ?_
        rintro e w2 ⟨rfl, hb⟩
        have bx3 := bx2.next hb
        have hown3 := owns_below hown' hb
        have B4 := B3.trans (hb.mono B3.size)
        have hgs3 : G + 1 ≤ w2.heap.size := Nat.le_trans hgs2 hb.size
        rw [HUJ.out]
        obtain ⟨⟨x', y'⟩, hxy⟩ : ∃ q, lx n i (j + 1) = q := ⟨_, rfl⟩
        rw [hxy]
        have HXY := Lib.hid hxy
        have s0 := bx3.c 0 _ rfl
        have s1 := bx3.c 1 _ rfl
        have g0 := bx3.f 0 (by simp)
        have g1 := bx3.f 1 (by simp)
        have HL := Lib.hid (lenOf_owns hown')
        have HBX := Lib.hid (bx3.two (.int .i64 x') (.int .i64 y'))
        have HOW := Lib.hid (owns_sets hown3 G (Nat.lt_succ_self _) (.int .i64 x') (.int .i64 y'))
        have HB4 := Lib.hid ((B4.setCell (p := ⟨G, 0, none⟩) hGw (.int .i64 x')).setCell (p := ⟨G, 1, none⟩) hGw (.int .i64 y'))
        have HGS : Hid (G + 1 ≤ ((w2.setCell ⟨G, 0, none⟩ (.int .i64 x')).setCell ⟨G, 1, none⟩ (.int .i64 y')).heap.size) := Lib.hid (by simpa [World.setCell] using hgs3)
        clear hxy bx2 bx3 hown' hown3 hb x0 x1 B3 B4 hgs3 hgs2
        go_wp2
        go_roundw
        case rel => exact ⟨j + 1, _, _, rfl, rfl, by omega, rfl, by rw [HXY.out]; exact HBX.out, by rw [HK.out]; simpa using HOW.out, HGS.out, HB4.out⟩
        case measure => have h1 := HL.out; have h2 := HLU.out; omega
      · have hd : decide (j ≤ n) = false := decide_eq_false hjn
        have hjj : (ups n i).take j = ups n i := List.take_of_length_le (by rw [ups_length]; omega)
        have hlen : (ups n i).length = j := by rw [ups_length]; omega
        rw [hjj] at hown
        obtain ⟨g', c', n', rfl⟩ : ∃ ao n' cap, u = Value.slice ao n' cap := by
          rcases hown.2 with ⟨hv, _⟩ | ⟨g, cap, cur, hv, _⟩
          · exact ⟨_, _, _, hv⟩
          · exact ⟨_, _, _, hv⟩
        have HOW : Hid (Mems wr.heap.size wr (ups n i) [.slice g' c' n']) := Lib.hid (own_labs (base := G + 1) (by rw [hlen]; exact hown))
        clear hjj hlen hown
        go_wp2
        go_ret
        rw [HU.out]
        exact ⟨_, rfl, HOW.out, B2⟩

set_option maxRecDepth 100000 in
set_option maxHeartbeats 4000000 in
theorem sameL_any (v u : Value) (xs ys : List (Int × Int)) (w : World) (h : Mems w.heap.size w xs [v]) (h' : Mems w.heap.size w ys [u]) (hn : xs.length ≤ 1000000) :
    Calls Try.prog 10 #[v, u] w fun e W' => e = .returned (.bool (decide (xs = ys))) ∧ Below w.heap.size w W' := by
  obtain ⟨A, cap, rfl, hlc, hcm, hp⟩ := mems_at h
  have HP := Lib.hid hp
  have hcm2 : cap ≤ 9223372036854775807 := Nat.le_trans hcm (by decide)
  clear hp h hcm
  obtain ⟨A', cap', rfl, hlc', hcm', hp'⟩ := mems_at h'
  have HP' := Lib.hid hp'
  have hcm3 : cap' ≤ 9223372036854775807 := Nat.le_trans hcm' (by decide)
  clear hp' h' hcm'
  by_cases hl : xs.length = ys.length
  · have HL := Lib.hid hl
    have hle : (xs.length : Int) = (ys.length : Int) := by omega
    go_enter Try.func10, Try.ntmps10
    go_wp2_with fail
    clear hl hle
    go_loopw [5] (fun i wr => ∃ k : Nat, k ≤ xs.length ∧ i = .int .i64 k ∧ Hid (xs.take k = ys.take k) ∧ Below w.heap.size w wr) (fun i _ => xs.length - (intOf i).toNat)
    case atStart => exact ⟨0, Nat.zero_le _, rfl, Lib.hid rfl, Below.refl _ _⟩
    case round =>
      obtain ⟨k, hk, rfl, HA, B⟩ := hrel
      by_cases hlt : k < xs.length
      · have hlt' : k < ys.length := by have := HL.out; omega
        have hd : decide (k < xs.length) = true := by simpa using hlt
        have hi : (k : Int) < (xs.length : Int) := by omega
        have hi' : (k : Int) < (ys.length : Int) := by omega
        have hge : (0 : Int) ≤ (k : Int) := by omega
        obtain ⟨g, off, rfl, hbn, hc0, hc1⟩ := HP.out k hlt
        obtain ⟨g', off', rfl, hbn', hc0', hc1'⟩ := HP'.out k hlt'
        have k0 := (B.cell (p := ⟨g, off + k * 2, none⟩) hbn).trans hc0
        have k1 := (B.cell (p := ⟨g, off + k * 2 + 1, none⟩) hbn).trans hc1
        have k0' := (B.cell (p := ⟨g', off' + k * 2, none⟩) hbn').trans hc0'
        have k1' := (B.cell (p := ⟨g', off' + k * 2 + 1, none⟩) hbn').trans hc1'
        clear hc0 hc1 hc0' hc1'
        have HX := Lib.hid (List.take_succ_eq_append_getElem hlt)
        have HY := Lib.hid (List.take_succ_eq_append_getElem hlt')
        have HD : Hid (¬ xs[k] = ys[k] → decide (xs = ys) = false) := Lib.hid fun hne => by
          rw [decide_eq_false_iff_not]
          intro e
          subst e
          exact hne rfl
        obtain ⟨⟨x, y⟩, hb⟩ : ∃ b, xs[k] = b := ⟨_, rfl⟩
        obtain ⟨⟨x', y'⟩, hb'⟩ : ∃ b, ys[k] = b := ⟨_, rfl⟩
        rw [hb] at k0 k1
        rw [hb'] at k0' k1'
        rw [hb, hb'] at HD
        have HB := Lib.hid hb
        have HB' := Lib.hid hb'
        clear hb hb'
        simp only at k0 k1 k0' k1'
        by_cases hne : (x, y) = (x', y')
        · obtain ⟨rfl, rfl⟩ : x = x' ∧ y = y' := by simpa using hne
          clear hne
          go_wp2_with fail
          go_quiet (fail)
          go_wp2
          go_roundw
          case rel => exact ⟨k + 1, by omega, by go_num, Lib.hid (by rw [HX.out, HY.out, HA.out, HB.out, HB'.out]), B.trans ⟨rfl, rfl, rfl, Nat.le_refl _, fun _ _ => rfl⟩⟩
          case measure => simp [intOf]; omega
        · have HE := Lib.hid (HD.out hne)
          have hne' : x = x' → y = y' → False := fun e2 e3 => hne (by rw [e2, e3])
          clear hne
          by_cases e2 : x = x'
          · subst e2
            have e3 : ¬ y = y' := fun e => hne' rfl e
            clear hne'
            go_wp2_with fail
            go_quiet (fail)
            go_wp2
            go_ret
            exact ⟨rbool HE.out.symm, B.trans ⟨rfl, rfl, rfl, Nat.le_refl _, fun _ _ => rfl⟩⟩
          · clear hne'
            go_wp2_with fail
            go_quiet (fail)
            go_wp2
            go_ret
            exact ⟨rbool HE.out.symm, B.trans ⟨rfl, rfl, rfl, Nat.le_refl _, fun _ _ => rfl⟩⟩
      · have hd : decide (k < xs.length) = false := by simpa using hlt
        go_wp2
        go_ret
        exact ⟨rbool (by
          have := HA.out
          rw [List.take_of_length_le (by omega), List.take_of_length_le (by have := HL.out; omega)] at this
          exact (decide_eq_true this).symm), B⟩
  · have HE : Hid (decide (xs = ys) = false) := Lib.hid (by
      rw [decide_eq_false_iff_not]
      intro e
      exact hl (by rw [e]))
    go_enter Try.func10, Try.ntmps10
    go_wp2
    go_ret
    exact ⟨rbool HE.out.symm, Below.refl _ _⟩

end Go.Proofs.Ytlmkgkfildgkgaa
