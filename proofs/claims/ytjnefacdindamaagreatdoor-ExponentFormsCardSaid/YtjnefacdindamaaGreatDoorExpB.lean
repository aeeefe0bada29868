import Derived.Test.YtjnefacdindamaaGreatDoorExpC
import Derived.Test.YtjnefacdindamaaGreatDoorExpF
import Derived.Test.YtjnefacdindamaaGreatDoorIto
import Derived.Test.YtjnefacdindamaaGreatDoorBld
/- The landed Formal of layer 14, by a strings.Builder and strconv.Itoa. Conditions: the slice reads as the spots of a tree that may be, or nothing's; internal/strconv.uint64pow10 reads as the library lays it. -/
namespace Go.Proofs.YtjnefacdindamaaGreatDoor
open Go Go.RowKit
set_option linter.unusedVariables false
set_option maxRecDepth 100000

theorem Bld.kept {B b : Nat} {l : List UInt8} {w w' : World} (h : Bld B b l w) (hb : Below w.heap.size w w') : Bld B b l w' := by
  have go : ∀ p, Lib.BuilderAt 64 5 B b p (Lib.byteCells l) w → Lib.BuilderAt 64 5 B b p (Lib.byteCells l) w' := fun p h => by
    have hlt := h.lt
    obtain ⟨hB, v, hbk, hown, hne⟩ := h
    exact ⟨hB, v, (hb.block b hlt).trans hbk, owns_below hown hb, hne⟩
  rcases h with h | h
  · exact Or.inl (go _ h)
  · exact Or.inr (go _ h)
theorem Bld.low {B b : Nat} {l : List UInt8} {w : World} (h : Bld B b l w) : B ≤ w.heap.size := by
  rcases h with h | h
  · exact Nat.le_trans h.1 (Nat.le_of_lt h.lt)
  · exact Nat.le_trans h.1 (Nat.le_of_lt h.lt)
/-- The table, whatever is made of the blocks from B on. -/
def TabB (B : Nat) (w : World) : Prop := ∀ w', Below B w w' → Tab w'
theorem TabB.here {B : Nat} {w : World} (h : TabB B w) : Tab w := h w (Below.refl _ _)
theorem TabB.next {B : Nat} {w w' : World} (h : TabB B w) (hb : Below B w w') : TabB B w' := fun x hx => h x (hb.trans hx)
theorem Tab.from {w : World} (h : Tab w) : TabB w.heap.size w := fun w' hb => h.next hb
set_option maxRecDepth 100000 in
set_option maxHeartbeats 8000000 in
theorem eFormal_flat : ∀ (t : Tr) (rest : List Sp) (v : Value) (B b : Nat) (p : List UInt8) (w : World), Spots B w (flat t ++ rest) [v] → Bld B b p w → TabB B w → p.length + (formT t).length ≤ 140737488355328 → (flat t ++ rest).length ≤ 1000000 → (∀ m ∈ lv (flat t), okM m.1 m.2 = true) →
    Calls Tryz.prog 35 #[.pointer (some ⟨b, 0, none⟩), v] w fun e W' => ∃ v', e = .returned v' ∧ Spots B W' rest [v'] ∧ Bld B b (p ++ formT t) W' ∧ Below B w W'
  | .leaf x y, rest, v, B, b, p, w, h, hB, hT, hpl, hn, hm => by
    have hxy := hm (x, y) (by simp [flat, lv])
    simp only [okM, okC, Bool.and_eq_true, decide_eq_true_eq] at hxy
    obtain ⟨A, cap, rfl, hlc, hcm, hp⟩ := spots_at h
    have hcm2 : cap ≤ 9223372036854775807 := Nat.le_trans hcm (by decide)
    obtain ⟨A', hrun, hS⟩ := cut_from h 1 (by simp [flat])
    obtain ⟨g0, off, rfl, hgn, hc0, hc1, hc2⟩ := hp 0 (by simp [flat])
    have hrun' : ∀ wx, (Instr.slice 22 (.slice (some ⟨g0, off, none⟩) (flat (.leaf x y) ++ rest).length cap) (some (.int .i64 1)) none none).run Tryz.prog wx = .ok (.slice A' ((flat (.leaf x y) ++ rest).length - 1) (cap - 1)) wx := hrun
    have e1 : (flat (.leaf x y) ++ rest)[0]'(by simp [flat]) = (true, x, y) := rfl
    have e2 : (flat (.leaf x y) ++ rest).drop 1 = rest := rfl
    have hlp : 0 < (flat (.leaf x y) ++ rest).length := by simp [flat]
    rw [e1] at hc0 hc1 hc2
    rw [e2] at hS
    have HS := Lib.hid hS
    have HB := Lib.hid hB
    have HTB := Lib.hid hT
    have hle := hB.low
    have s1 : (digN x.toNat).length ≤ 10 := digN_len _ (by omega)
    have s2 : (digN y.toNat).length ≤ 10 := digN_len _ (by omega)
    have z1 : (tx (digN x.toNat)).size ≤ 10 := by rw [tx_size]; exact s1
    have z2 : (tx (digN y.toNat)).size ≤ 10 := by rw [tx_size]; exact s2
    have HT : Hid (tx (digN x.toNat) ++ ByteArray.mk #[46] ++ tx (digN y.toNat) = tx (formT (.leaf x y))) := Lib.hid (by
      rw [show (ByteArray.mk #[46]) = tx [46] by rw [tx_is], tx_app, tx_app]; rfl)
    have hr1 : (tx (digN x.toNat)).size ≤ 9223372036854775806 := by omega
    have hr2 : (tx (digN x.toNat)).size + 1 + (tx (digN y.toNat)).size ≤ 9223372036854775807 := by omega
    clear h hp hcm hS e1 e2 hrun hm hB hT
    generalize (flat (.leaf x y) ++ rest).length = N at *
    have hN : (0 : Int) < (N : Int) := by omega
    have hN0 : ¬ N = 0 := by omega
    simp only [Nat.zero_mul, Nat.add_zero] at hc0 hc1 hc2
    replace hc1 : w.cell? ⟨g0, off + 1, none⟩ = some (.int .i64 x) := hc1
    replace hc2 : w.cell? ⟨g0, off + 1 + 1, none⟩ = some (.int .i64 y) := hc2
    go_enter Tryz.func35, Tryz.ntmps35
    go_wp2_with fail
    obtain ⟨W0, hW0, b0, B0⟩ : ∃ W0, w.alloc (.cells #[.int .i64 x, .int .i64 y] 29) = W0 ∧ Box W0 w.heap.size [.int .i64 x, .int .i64 y] ∧ Below w.heap.size w W0 := ⟨_, rfl, Box.new w _ _, below_new _ _⟩
    rw [hW0]
    clear hW0
    obtain ⟨G0, hG0⟩ : ∃ G, w.heap.size = G := ⟨_, rfl⟩
    have BB0 : Below B w W0 := B0.mono hle
    replace HB := Lib.hid (HB.out.kept B0)
    rw [hG0] at b0
    try rw [hG0]
    clear hG0
    have HTW : Hid (∀ w', Below W0.heap.size W0 w' → Tab w') := Lib.hid fun w' hb => HTB.out w' (BB0.trans (hb.mono (Nat.le_trans hle B0.size)))
    refine wp_region_tail ([_, _, _, _, _, _, _, _, _]) ([_]) (fun i => ([.pointer (some ⟨b, 0, none⟩), .pointer (some ⟨G0, 0, none⟩), .int .i64 x, .string (tx (digN x.toNat)), .string (tx (digN x.toNat) ++ ByteArray.mk #[46]), .pointer (some ⟨G0, 1, none⟩), .int .i64 y, .string (tx (digN y.toNat)), .string (tx (digN x.toNat) ++ ByteArray.mk #[46] ++ tx (digN y.toNat))] : List Value).getD i undef) [3, 7] [0, 0, 0, 0, 1, 0, 0, 1, 2] (fun _ w' => Below W0.heap.size W0 w') (by kernel_rfl) (by kernel_rfl) (by kernel_rfl) (⟨rfl, rfl, rfl, Nat.le_refl _, fun _ _ => rfl⟩) ?_ ?_
    · refine Obs_of_endsT (by kernel_rfl) ?_
      intro Fr hEA
      refine ⟨?_, ?_, ?_, ?_, ?_, ?_, ?_, ?_, ?_, trivial⟩
      · exact ob_move _ rfl (want_none rfl) (by kernel_rfl) (eval_outT hEA (d := 0) (by kernel_rfl))
      · refine ob_val (want_none rfl) (by kernel_rfl) (fun ph w' hp hpm hw => ?_)
        have e5 : Fr.tmps[5]? = some (.pointer (some ⟨G0, 0, none⟩)) := at_outT hEA (d := 5) (by kernel_rfl); simp [execOp, e5, go_sem]
      · refine ob_val (want_none rfl) (by kernel_rfl) (fun ph w' hp hpm hw => ?_)
        have hc0 := (hw.cell (p := ⟨G0, 0, none⟩) b0.lt).trans (b0.c 0 _ rfl)
        have e16 : Fr.tmps[16]? = some (.pointer (some ⟨G0, 0, none⟩)) := hEA.dst 1 _ 16 (by decide) rfl rfl; simp [execOp, e16, hc0, go_sem]
      · refine ob_call (q := 0) (f := 58) (args := #[.int .i64 x]) (want_none rfl) (by kernel_rfl) (fun w' => by have e17 : Fr.tmps[17]? = some (.int .i64 x) := hEA.dst 2 _ 17 (by decide) rfl rfl; simp [e17, go_sem]) ?_
        intro w' hw
        refine (itoa_any x w' (by omega) (by omega) (HTW.out w' hw)).mono ?_
        rintro e w2 ⟨rfl, hb⟩
        exact ⟨rfl, hw.trans (hb.mono hw.size)⟩
      · refine ob_val (want_none rfl) (by kernel_rfl) (fun ph w' hp hpm hw => ?_)
        have e18 : Fr.tmps[18]? = some (.string (tx (digN x.toNat))) := hEA.dst 3 _ 18 (by decide) rfl rfl; simp [execOp, e18, hr1, go_sem]
      · refine ob_val (want_none rfl) (by kernel_rfl) (fun ph w' hp hpm hw => ?_)
        have e5 : Fr.tmps[5]? = some (.pointer (some ⟨G0, 0, none⟩)) := at_outT hEA (d := 5) (by kernel_rfl); simp [execOp, e5, go_sem]
      · refine ob_val (want_none rfl) (by kernel_rfl) (fun ph w' hp hpm hw => ?_)
        have hc0 := (hw.cell (p := ⟨G0, 1, none⟩) b0.lt).trans (b0.c 1 _ rfl)
        have e20 : Fr.tmps[20]? = some (.pointer (some ⟨G0, 1, none⟩)) := hEA.dst 5 _ 20 (by decide) rfl rfl; simp [execOp, e20, hc0, go_sem]
      · refine ob_call (q := 1) (f := 58) (args := #[.int .i64 y]) (want_none rfl) (by kernel_rfl) (fun w' => by have e21 : Fr.tmps[21]? = some (.int .i64 y) := hEA.dst 6 _ 21 (by decide) rfl rfl; simp [e21, go_sem]) ?_
        intro w' hw
        refine (itoa_any y w' (by omega) (by omega) (HTW.out w' hw)).mono ?_
        rintro e w2 ⟨rfl, hb⟩
        exact ⟨rfl, hw.trans (hb.mono hw.size)⟩
      · refine ob_val (want_none rfl) (by kernel_rfl) (fun ph w' hp hpm hw => ?_)
        have e19 : Fr.tmps[19]? = some (.string (tx (digN x.toNat) ++ ByteArray.mk #[46])) := hEA.dst 4 _ 19 (by decide) rfl rfl; have e22 : Fr.tmps[22]? = some (.string (tx (digN y.toNat))) := hEA.dst 7 _ 22 (by decide) rfl rfl; simp [execOp, e19, e22, hr2, go_sem]
    · intro w' hw
      simp only [laid, Act.put, List.setIfInBounds_toArray, List.set_cons_succ, List.set_cons_zero, List.getD_cons_succ, List.getD_cons_zero, Nat.zero_add, Nat.reduceAdd]
      obtain ⟨wz, hwz⟩ : ∃ wz, w' = wz := ⟨_, rfl⟩
      rw [hwz] at hw
      rw [hwz]
      clear hwz
      replace HB := Lib.hid (HB.out.kept hw)
      have B2 : Below B w wz := BB0.trans (hw.mono (Nat.le_trans hle B0.size))
      clear hw
      rw [HT.out]
      go_wp2_with fail
      refine (writeString_any B b p (formT (.leaf x y)) wz HB.out hpl HB.out.low).mono ?_
      rintro e W5 ⟨⟨u5, rfl⟩, hb1, b1⟩
      replace HS := Lib.hid (keeps_spots _ _ _ _ _ _ HS.out (B2.trans b1) (Nat.le_refl _))
      replace B2 := B2.trans b1
      have HBE := Lib.hid hb1
      clear hb1 b1 HB
      go_wp2
      go_ret
      exact ⟨_, rfl, HS.out, HBE.out, B2⟩
  | .inner x y l r, rest, v, B, b, p, w, h, hB, hT, hpl, hn, hm => by
    obtain ⟨A, cap, rfl, hlc, hcm, hp⟩ := spots_at h
    have hcm2 : cap ≤ 9223372036854775807 := Nat.le_trans hcm (by decide)
    obtain ⟨A', hrun, hS⟩ := cut_from h 1 (by simp [flat])
    obtain ⟨g0, off, rfl, -, hc0, -, -⟩ := hp 0 (by simp [flat])
    have hrun' : ∀ wx, (Instr.slice 22 (.slice (some ⟨g0, off, none⟩) (flat (.inner x y l r) ++ rest).length cap) (some (.int .i64 1)) none none).run Tryz.prog wx = .ok (.slice A' ((flat (.inner x y l r) ++ rest).length - 1) (cap - 1)) wx := hrun
    have e1 : (flat (.inner x y l r) ++ rest)[0]'(by simp [flat]) = (false, x, y) := rfl
    have e2 : (flat (.inner x y l r) ++ rest).drop 1 = flat l ++ (flat r ++ rest) := by simp [flat]
    have hlp : 0 < (flat (.inner x y l r) ++ rest).length := by simp [flat]
    have hn2 : (flat l ++ (flat r ++ rest)).length ≤ 1000000 := by simp [flat] at hn ⊢; omega
    have hn3 : (flat r ++ rest).length ≤ 1000000 := by simp at hn2 ⊢; omega
    have e : lv (flat (.inner x y l r)) = lv (flat l) ++ lv (flat r) := by rw [← lv_append]; rfl
    rw [e] at hm
    have hml : ∀ m ∈ lv (flat l), okM m.1 m.2 = true := fun m h => hm m (List.mem_append_left _ h)
    have hmr : ∀ m ∈ lv (flat r), okM m.1 m.2 = true := fun m h => hm m (List.mem_append_right _ h)
    have hfl : (formT (.inner x y l r)).length = (formT l).length + (formT r).length + 3 := by simp [formT]; omega
    rw [hfl] at hpl
    have HL := Lib.hid (fun v p w h hB hT hpl => eFormal_flat l (flat r ++ rest) v B b p w h hB hT hpl hn2 hml)
    have HR := Lib.hid (fun v p w h hB hT hpl => eFormal_flat r rest v B b p w h hB hT hpl hn3 hmr)
    rw [e1] at hc0
    rw [e2] at hS
    have HS := Lib.hid hS
    have HB := Lib.hid hB
    have HTB := Lib.hid hT
    have HF : Hid (∀ p : List UInt8, p ++ [40] ++ formT l ++ [32] ++ formT r ++ [41] = p ++ formT (.inner x y l r)) := Lib.hid (fun p => by simp [formT, List.append_assoc])
    obtain ⟨fl, hfl2⟩ : ∃ fl, formT l = fl := ⟨_, rfl⟩
    obtain ⟨fr, hfr2⟩ : ∃ fr, formT r = fr := ⟨_, rfl⟩
    rw [hfl2] at HL HF hpl
    rw [hfr2] at HR HF hpl
    clear h hp hcm hS e1 e2 hrun hn2 hn3 e hm hml hmr hn hB hT hfl hfl2 hfr2
    generalize (flat (.inner x y l r) ++ rest).length = N at *
    have hN : (0 : Int) < (N : Int) := by omega
    simp only [Nat.zero_mul, Nat.add_zero] at hc0
    have t1 : ByteArray.mk #[40] = tx [40] := by rw [tx_is]
    have t2 : ByteArray.mk #[32] = tx [32] := by rw [tx_is]
    have t3 : ByteArray.mk #[41] = tx [41] := by rw [tx_is]
    have T1 := Lib.hid t1
    have T2 := Lib.hid t2
    have T3 := Lib.hid t3
    clear t1 t2 t3
    go_enter Tryz.func35, Tryz.ntmps35
    go_wp2_with fail
    rw [T1.out]
    refine (writeString_any B b p [40] w HB.out (by simp; omega) HB.out.low).mono ?_
    rintro e W1 ⟨⟨u1, rfl⟩, hb1, b1⟩
    replace HB := Lib.hid hb1
    replace HS := Lib.hid (keeps_spots _ _ _ _ _ _ HS.out b1 (Nat.le_refl _))
    replace HTB := Lib.hid (HTB.out.next b1)
    clear hb1
    go_wp2_with fail
    refine (HL.out _ _ W1 HS.out HB.out HTB.out (by simp; omega)).mono ?_
    rintro e W2 ⟨v2, rfl, hs2, hb2, b2⟩
    replace HB := Lib.hid hb2
    replace HS := Lib.hid hs2
    replace HTB := Lib.hid (HTB.out.next b2)
    have B2 := b1.trans b2
    clear hb2 hs2 b1 b2 HL
    go_wp2_with fail
    rw [T2.out]
    refine (writeString_any B b _ [32] W2 HB.out (by simp; omega) HB.out.low).mono ?_
    rintro e W3 ⟨⟨u3, rfl⟩, hb1, b1⟩
    replace HB := Lib.hid hb1
    replace HS := Lib.hid (keeps_spots _ _ _ _ _ _ HS.out b1 (Nat.le_refl _))
    replace HTB := Lib.hid (HTB.out.next b1)
    replace B2 := B2.trans b1
    clear hb1 b1
    go_wp2_with fail
    refine (HR.out _ _ W3 HS.out HB.out HTB.out (by simp; omega)).mono ?_
    rintro e W4 ⟨v4, rfl, hs2, hb2, b2⟩
    replace HB := Lib.hid hb2
    replace HS := Lib.hid hs2
    replace B2 := B2.trans b2
    clear hb2 hs2 b2 HR HTB
    go_wp2_with fail
    rw [T3.out]
    refine (writeString_any B b _ [41] W4 HB.out (by simp; omega) HB.out.low).mono ?_
    rintro e W5 ⟨⟨u5, rfl⟩, hb1, b1⟩
    replace HS := Lib.hid (keeps_spots _ _ _ _ _ _ HS.out b1 (Nat.le_refl _))
    replace B2 := B2.trans b1
    rw [HF.out] at hb1
    have HBE := Lib.hid hb1
    clear hb1 b1 HB
    go_wp2
    go_ret
    exact ⟨v4, rfl, HS.out, HBE.out, B2⟩
set_option maxRecDepth 100000 in
set_option maxHeartbeats 4000000 in
theorem eFormal_any (ot : Option Tr) (v : Value) (w : World) (hx : Spots w.heap.size w (spo ot) [v]) (hk : okT (spo ot) = true) (hh : htO ot ≤ 60) (hT : Tab w) :
    Calls Tryz.prog 16 #[v] w fun e W' => e = .returned (.string (tx (formO ot))) ∧ Below w.heap.size w W' := by
  have hn : (spo ot).length ≤ 1000000 := by have := (okT_parts hk).1; omega
  have HW := Lib.hid (isWhole_any v ot w hx hn)
  have HX := Lib.hid hx
  have HTB := Lib.hid hT.from
  clear hx hT
  cases ot with
  | none =>
    have HT : Hid (ByteArray.mk #[] = tx (formO none)) := Lib.hid (by rw [tx_is]; rfl)
    go_enter Tryz.func16, Tryz.ntmps16
    go_wp2_with fail
    refine HW.out.mono ?_
    rintro e W1 ⟨rfl, B⟩
    simp only [Option.isSome_none]
    go_wp2
    go_ret
    exact ⟨by rw [← HT.out]; rfl, B⟩
  | some t =>
    obtain ⟨h1, -, h3⟩ := okT_parts hk
    have hfm : ∀ m ∈ lv (flat t), okM m.1 m.2 = true := fun m hm => once_ok h3 hm
    have hfl := form_len t hfm
    have h1' : (flat t).length ≤ 128 := h1
    have HK := Lib.hid (fun B b w h hB hT => eFormal_flat t [] v B b [] w (by rw [List.append_nil]; exact h) hB hT (by simp; omega) (by rw [List.append_nil]; omega) hfm)
    have HT : Hid (formO (some t) = formT t) := Lib.hid rfl
    clear hfm hfl h1 h1' h3 hk
    go_enter Tryz.func16, Tryz.ntmps16
    go_wp2_with fail
    refine HW.out.mono ?_
    rintro e W1 ⟨rfl, B⟩
    simp only [Option.isSome_some]
    replace HX := Lib.hid (keeps_spots _ _ _ _ _ _ HX.out B B.size)
    replace HTB := Lib.hid (HTB.out.next B)
    clear HW
    go_wp2_with fail
    obtain ⟨G, hG⟩ : ∃ G, W1.heap.size = G := ⟨_, rfl⟩
    obtain ⟨W2, hW2, hb, b0⟩ : ∃ W2, W1.alloc (.cells #[.pointer none, .slice none 0 0] 64) = W2 ∧ Bld W1.heap.size W1.heap.size [] W2 ∧ Below W1.heap.size W1 W2 := ⟨_, rfl, Lib.fresh_isBuilder _ _ W1, below_new _ _⟩
    rw [hW2]
    clear hW2
    replace HX := Lib.hid (keeps_spots _ _ _ _ _ _ HX.out b0 (Nat.le_refl _))
    replace HTB := Lib.hid (HTB.out.next (b0.mono B.size))
    have HTG : Hid (TabB W1.heap.size W2) := Lib.hid fun w' hw => HTB.out w' (hw.mono B.size)
    rw [hG] at hb b0 HX HTG
    try rw [hG]
    have hGw : w.heap.size ≤ G := by rw [← hG]; exact B.size
    have HB := Lib.hid hb
    have B2 := B.trans (b0.mono hGw)
    clear hb b0 hG HTB B
    refine (HK.out G G W2 HX.out HB.out HTG.out).mono ?_
    rintro e W3 ⟨v3, rfl, -, hb3, b3⟩
    rw [List.nil_append] at hb3
    replace HB := Lib.hid hb3
    replace B2 := B2.trans (b3.mono hGw)
    clear hb3 b3 HX HTG HK
    go_wp2_with fail
    refine (bldString_any G G (formT t) W3 HB.out HB.out.low).mono ?_
    rintro e W4 ⟨rfl, b4⟩
    replace B2 := B2.trans (b4.mono hGw)
    clear b4
    go_wp2
    go_ret
    exact ⟨by rw [HT.out]; rfl, B2⟩
end Go.Proofs.YtjnefacdindamaaGreatDoor
