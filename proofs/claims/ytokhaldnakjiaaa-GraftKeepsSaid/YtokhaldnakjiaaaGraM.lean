/- The document's Merge of layer 12. Condition: the slice reads as at most 1,000 trees' spots, or nothings', each of at most 100,000 and 30 high, and so all that is grafted on the way. -/
import Derived.Test.YtokhaldnakjiaaaGraT
import Derived.Test.YtokhaldnakjiaaaPhaseA
namespace Go.Proofs.Ytokhaldnakjiaaa
open Go Go.RowKit
set_option linter.unusedVariables false

/-- Put into an order. -/
def insG (x : Option Tr) : List (Option Tr) → List (Option Tr)
  | [] => [x]
  | y :: r => if aheadO x y then x :: y :: r else y :: insG x r
/-- Where. -/
def kIx (x : Option Tr) : List (Option Tr) → Nat
  | [] => 0
  | y :: r => if aheadO x y then 0 else kIx x r + 1
theorem kIx_le (x : Option Tr) : ∀ l, kIx x l ≤ l.length
  | [] => Nat.le_refl _
  | y :: r => by
    simp only [kIx]
    split
    · exact Nat.zero_le _
    · have := kIx_le x r; simp only [List.length_cons]; omega
theorem insG_eq (x : Option Tr) : ∀ l, insG x l = l.take (kIx x l) ++ x :: l.drop (kIx x l)
  | [] => rfl
  | y :: r => by
    simp only [insG, kIx]
    split
    · rfl
    · rw [insG_eq x r]; rfl
theorem insG_at {x : Option Tr} {l : List (Option Tr)} {k : Nat} (h : kIx x l = k) : insG x l = l.take k ++ ([x] ++ l.drop k) := by
  rw [insG_eq, h]; rfl
/-- The trees that aren't nothing, in order. -/
def sortG (xs : List (Option Tr)) : List (Option Tr) := xs.foldl (fun rest x => if x.isSome then insG x rest else rest) []
theorem sortG_snoc (xs : List (Option Tr)) (k : Nat) (h : k < xs.length) : sortG (xs.take (k + 1)) = if xs[k].isSome then insG xs[k] (sortG (xs.take k)) else sortG (xs.take k) := by
  unfold sortG
  rw [List.take_succ_eq_append_getElem h, List.foldl_append]
  rfl
theorem insG_len (x : Option Tr) (l : List (Option Tr)) : (insG x l).length = l.length + 1 := by
  rw [insG_eq]
  have := kIx_le x l
  simp only [List.length_append, List.length_cons, List.length_take, List.length_drop]
  omega
theorem sortG_len (xs : List (Option Tr)) (k : Nat) : k ≤ xs.length → (sortG (xs.take k)).length ≤ k := by
  induction k with
  | zero => intro _; simp [sortG]
  | succ k ih =>
    intro hk
    rw [sortG_snoc xs k (by omega)]
    have := ih (by omega)
    split
    · rw [insG_len]; omega
    · omega
theorem insG_mem {x y : Option Tr} {l : List (Option Tr)} (h : y ∈ insG x l) : y = x ∨ y ∈ l := by
  rw [insG_eq] at h
  rcases List.mem_append.1 h with h | h
  · exact Or.inr (List.mem_of_mem_take h)
  · rcases List.mem_cons.1 h with h | h
    · exact Or.inl h
    · exact Or.inr (List.mem_of_mem_drop h)
theorem sortG_mem (xs : List (Option Tr)) (k : Nat) : k ≤ xs.length → ∀ y ∈ sortG (xs.take k), y ∈ xs := by
  induction k with
  | zero => intro _ y hy; simp [sortG] at hy
  | succ k ih =>
    intro hk y hy
    rw [sortG_snoc xs k (by omega)] at hy
    split at hy
    · rcases insG_mem hy with rfl | h
      · exact List.getElem_mem _
      · exact ih (by omega) y h
    · exact ih (by omega) y hy
theorem kIx_step {x : Option Tr} {l : List (Option Tr)} {k : Nat} (h : k < l.length) (ha : aheadO x l[k] = false) (hk : kIx x l = k + kIx x (l.drop k)) : kIx x l = (k + 1) + kIx x (l.drop (k + 1)) := by
  rw [List.drop_eq_getElem_cons h] at hk
  simp only [kIx, ha] at hk
  simp at hk
  omega
theorem kIx_here {x : Option Tr} {l : List (Option Tr)} {k : Nat} (h : k < l.length) (ha : aheadO x l[k] = true) (hk : kIx x l = k + kIx x (l.drop k)) : kIx x l = k := by
  rw [List.drop_eq_getElem_cons h] at hk
  simp only [kIx, ha] at hk
  simpa using hk
theorem kIx_end {x : Option Tr} {l : List (Option Tr)} {k : Nat} (h : l.length ≤ k) (hk : kIx x l = k + kIx x (l.drop k)) : kIx x l = k := by
  rw [List.drop_of_length_le h] at hk
  simpa [kIx] using hk
def mergeO (xs : List (Option Tr)) : Option Tr := (sortG xs).foldl graftO none
/-- The first heads; those from one on. -/
theorem heads_to {n : Nat} {w : World} {hs : List Hd} {A : Option Addr} {m cap : Nat} (h : Heads n w hs [.slice A m cap]) (hm : hs.length = m) (hc : m ≤ cap) (j : Nat) (hj : j ≤ m) :
    ∃ A', (∀ wx, (Instr.slice 22 (.slice A m cap) none (some (.int .i64 (j : Int))) none).run Try.prog wx = .ok (.slice A' j cap) wx) ∧ Heads n w (hs.take j) [.slice A' j cap] := by
  subst hm
  have hS := slice_cut h 0 j (Nat.zero_le _) hj
  obtain ⟨A', e⟩ := sliced_is A 0 j cap 1
  rw [Nat.sub_zero, Nat.sub_zero] at e
  refine ⟨A', fun wx => ?_, ?_⟩
  · rw [run_slice_h _ _ _ _ _ Try.underlying22 _ _ (by omega) (by omega)]
    have es : (sizeOf (Try.prog.elem 22)).run Try.prog wx = .ok 1 wx := Try.sizeOf24 wx
    rw [es]
    simp only [Result.andThen, Int.toNat_natCast, e]
  · rw [e, Nat.sub_zero, List.drop_zero] at hS
    exact hS
theorem heads_from {n : Nat} {w : World} {hs : List Hd} {A : Option Addr} {m cap : Nat} (h : Heads n w hs [.slice A m cap]) (hm : hs.length = m) (i : Nat) (hi : i ≤ m) :
    ∃ A', (∀ wx, (Instr.slice 22 (.slice A m cap) (some (.int .i64 (i : Int))) none none).run Try.prog wx = .ok (.slice A' (m - i) (cap - i)) wx) ∧ Heads n w (hs.drop i) [.slice A' (m - i) (cap - i)] := by
  subst hm
  have hS := slice_cut h i hs.length hi (Nat.le_refl _)
  obtain ⟨A', e⟩ := sliced_is A i hs.length cap 1
  refine ⟨A', fun wx => ?_, ?_⟩
  · rw [run_slice_l _ _ _ _ _ Try.underlying22 _ _ (by omega) (by omega)]
    have es : (sizeOf (Try.prog.elem 22)).run Try.prog wx = .ok 1 wx := Try.sizeOf24 wx
    rw [es]
    simp only [Result.andThen, Int.toNat_natCast, e]
  · rw [e, List.take_of_length_le (by simp)] at hS
    exact hS
theorem each_at {n : Nat} {w : World} {hs : List Hd} {xs : List (Option Tr)} (h : Each n w hs xs) (i : Nat) (h1 : i < hs.length) (h2 : i < xs.length) : Spots n w (spo xs[i]) [.slice hs[i].1 hs[i].2.1 hs[i].2.2] :=
  h.2 i _ _ (List.getElem?_eq_getElem h1) (List.getElem?_eq_getElem h2)

set_option maxRecDepth 100000 in
set_option maxHeartbeats 16000000 in
theorem refMerge_any (v : Value) (hs : List Hd) (xs : List (Option Tr)) (w : World) (hH : Heads w.heap.size w hs [v]) (hE : Each w.heap.size w hs xs) (hn : xs.length ≤ 1000) (hx : ∀ x ∈ xs, (spo x).length ≤ 100000 ∧ htO x ≤ 30)
    (hm : ∀ k, k ≤ (sortG xs).length → (spo (((sortG xs).take k).foldl graftO none)).length ≤ 100000 ∧ htO (((sortG xs).take k).foldl graftO none) ≤ 30) :
    Calls Try.prog 14 #[v] w fun e W' => ∃ v', e = .returned v' ∧ Spots W'.heap.size W' (spo (mergeO xs)) [v'] ∧ Below w.heap.size w W' := by
  have HE0 := Lib.hid hE
  have hlen := hE.1
  obtain ⟨A, ca, rfl, hlc, hcm, hp⟩ := heads_at hH
  have hcm2 : ca ≤ 9223372036854775807 := Nat.le_trans hcm (by decide)
  have HP := Lib.hid hp
  have HXS := Lib.hid hx
  have HM := Lib.hid hm
  have hhs : hs.length ≤ 1000 := by omega
  have HLN := Lib.hid hlen
  clear hlen
  clear hp hcm hE hx hm hH
  go_enter Try.func14, Try.ntmps14
  go_wp2_with fail
  go_loopw [3, 4, 5] (fun rest iv _ wr => ∃ (ix : Nat) (rs : List Hd) (wq : World) (vq : Value), wq = wr ∧ vq = rest ∧ ix ≤ hs.length ∧ iv = .int .i64 (ix : Int) ∧ Heads wr.heap.size wr rs [rest] ∧ Each wr.heap.size wr rs (sortG (xs.take ix)) ∧ Below w.heap.size w wr) (fun _ iv _ _ => hs.length - (intOf iv).toNat)
  case atStart => exact ⟨0, [], _, _, rfl, rfl, Nat.zero_le _, rfl, own_heads (World.ownsRow_nil _ w.heap.size _ _), Each.nil _ _, Below.refl _ _⟩
  case round =>
    obtain ⟨ix, rs, wr, rest, rfl, rfl, hi, rfl, hR, hE, B⟩ := hrel
    have HR := Lib.hid hR
    have HE := Lib.hid hE
    have hrl : rs.length ≤ 1000 := by have := hE.1; have := sortG_len xs ix (by have := HLN.out; omega); omega
    obtain ⟨AR, cr, rfl, hcr, hcm, hp⟩ := heads_at hR
    have hcr2 : cr ≤ 9223372036854775807 := Nat.le_trans hcm (by decide)
    have HRP := Lib.hid hp
    clear hR hE hcm hp
    by_cases hlt : ix < hs.length
    · have hd : decide (ix < hs.length) = true := decide_eq_true hlt
      have hil : (ix : Int) < (hs.length : Int) := by omega
      have hgi : (0 : Int) ≤ (ix : Int) := by omega
      obtain ⟨g, off, rfl, hgn, hc0⟩ := HP.out ix hlt
      have k0 := (B.cell (p := ⟨g, off + ix, none⟩) hgn).trans hc0
      have hgr : g < wr.heap.size := Nat.lt_of_lt_of_le hgn B.size
      have hix : ix < xs.length := by have := HLN.out; omega
      have hX := keeps_spots _ _ _ _ _ _ (each_at HE0.out ix hlt hix) B B.size
      have HSN := Lib.hid (sortG_snoc xs ix hix)
      have HXB := Lib.hid (HXS.out _ (List.getElem_mem hix))
      obtain ⟨⟨hA, hN, hK⟩, hq⟩ : ∃ q, hs[ix] = q := ⟨_, rfl⟩
      rw [hq] at k0 hX
      obtain ⟨x, hxe⟩ : ∃ x, xs[ix] = x := ⟨_, rfl⟩
      rw [hxe] at hX HSN HXB
      clear hq hxe hc0 hgn
      simp only at k0 hX
      obtain ⟨_, _, e, -, hK1, -⟩ := spots_at hX
      simp only [Value.slice.injEq] at e
      obtain ⟨-, hNe, -⟩ := e
      have HX := Lib.hid hX
      clear hX
      have hxn := HXB.out.1
      have hKK : hK ≤ 9223372036854775807 := by
        obtain ⟨_, _, e, -, hK1, -⟩ := spots_at HX.out
        simp only [Value.slice.injEq] at e
        rw [e.2.2]
        exact Nat.le_trans hK1 (by decide)
      clear hK1
      cases x with
      | none =>
        have hN0 : hN = 0 := hNe
        subst hN0
        have HS2 : Hid (sortG (xs.take (ix + 1)) = sortG (xs.take ix)) := Lib.hid HSN.out
        clear hNe HSN hxn
        go_wp2
        go_roundw
        case rel => exact ⟨ix + 1, rs, _, _, rfl, rfl, by omega, by go_num, HR.out, by rw [HS2.out]; exact HE.out, B⟩
        case measure => simp [intOf]; omega
      | some t =>
        have hpos := flat_pos t
        have hNp : decide (0 < hN) = true := decide_eq_true (by have : hN = (flat t).length := hNe; omega)
        have HSO : Hid (sortG (xs.take (ix + 1)) = insG (some t) (sortG (xs.take ix))) := Lib.hid HSN.out
        obtain ⟨x, hxx⟩ : ∃ x, some t = x := ⟨_, rfl⟩
        rw [hxx] at HX HSO hxn
        clear hNe HSN hpos hxx
        obtain ⟨so, hso⟩ : ∃ so, sortG (xs.take ix) = so := ⟨_, rfl⟩
        rw [hso] at HSO HE
        have HYB : Hid (∀ y ∈ so, (spo y).length ≤ 100000) := Lib.hid fun y hy => (HXS.out y (sortG_mem xs ix (by have := HLN.out; omega) y (by rw [hso]; exact hy))).1
        have hsl := HE.out.1
        have HBw := Lib.hid B
        clear hso
        go_wp2_with fail
        go_loopw [5] (fun kv wz => ∃ (k : Nat) (wq : World), wq = wz ∧ k ≤ rs.length ∧ kv = .int .i64 (k : Int) ∧ Hid (kIx x so = k + kIx x (so.drop k)) ∧ Below wr.heap.size wr wz) (fun kv _ => rs.length - (intOf kv).toNat)
        case atStart => exact ⟨0, _, rfl, Nat.zero_le _, rfl, Lib.hid (by simp), Below.refl _ _⟩
        case round =>
          obtain ⟨k, wz, rfl, hk, rfl, HKI, Bz⟩ := hrel
          have k0 := (Bz.cell (p := ⟨g, off + ix, none⟩) hgr).trans k0
          have hgw : g < wz.heap.size := Nat.lt_of_lt_of_le hgr Bz.size
          have HR := Lib.hid (keeps_heads _ _ _ _ _ _ HR.out Bz Bz.size)
          have HE := Lib.hid (HE.out.keep Bz Bz.size)
          have HX := Lib.hid (keeps_spots _ _ _ _ _ _ HX.out Bz Bz.size)
          have B := B.trans (Bz.mono B.size)
          by_cases hkr : k < rs.length
          · have hkl : decide (k < rs.length) = true := decide_eq_true hkr
            have hkl2 : (k : Int) < (rs.length : Int) := by omega
            have hgk : (0 : Int) ≤ (k : Int) := by omega
            obtain ⟨g2, off2, rfl, hg2n, hy0⟩ := HRP.out k hkr
            have y0 := (Bz.cell (p := ⟨g2, off2 + k, none⟩) hg2n).trans hy0
            have hg2 : g2 < wz.heap.size := Nat.lt_of_lt_of_le hg2n Bz.size
            have hks : k < so.length := by omega
            have hY := each_at HE.out k hkr hks
            have hyn := HYB.out _ (List.getElem_mem hks)
            have HK1 := Lib.hid (fun ha => kIx_step (x := x) hks ha HKI.out)
            have HK2 := Lib.hid (fun ha => kIx_here (x := x) hks ha HKI.out)
            obtain ⟨⟨yA, yN, yK⟩, hq⟩ : ∃ q, rs[k] = q := ⟨_, rfl⟩
            rw [hq] at y0 hY
            obtain ⟨y, hye⟩ : ∃ y, so[k] = y := ⟨_, rfl⟩
            rw [hye] at hY hyn HK1 HK2
            simp only at y0 hY
            have HY := Lib.hid hY
            clear hq hye hy0 hg2n hY
            cases hc : aheadO x y
            · have HC := Lib.hid hc
              have HKN := Lib.hid (HK1.out hc)
              clear hc HK1 HK2 HKI
              go_wp2_with fail
              refine wp_region_results (fun r i => ([.int .i64 (k : Int), .slice (some ⟨g2, off2, none⟩) rs.length cr, .int .i64 (rs.length : Int), .bool true, .bool true, .slice (some ⟨g, off, none⟩) hs.length ca, .int .i64 (ix : Int), .pointer (some ⟨g, off + ix, none⟩), .slice hA hN hK, .slice (some ⟨g2, off2, none⟩) rs.length cr, .int .i64 (k : Int), .pointer (some ⟨g2, off2 + k, none⟩), .slice yA yN yK, .bool false, .bool true, .bool true] : List Value).getD i undef) [13] [0, 0, 0, 0, 0, 0, 0, 0, 0, 0, 0, 0, 0, 0, 1, 1] (fun r q w' => (Below wz.heap.size wz w')) (by kernel_rfl) (by kernel_rfl) (fun r => ⟨rfl, rfl, rfl, Nat.le_refl _, fun _ _ => rfl⟩) ?_ ?_
              · refine ObsR_of_ends (by kernel_rfl) ?_
                intro r Fr hEA
                refine ⟨?_, ?_, ?_, ?_, ?_, ?_, ?_, ?_, ?_, ?_, ?_, ?_, ?_, ?_, ?_, ?_, trivial⟩
                · exact obR_move _ rfl (want_none rfl) (by kernel_rfl) (eval_out hEA (d := 5) (by kernel_rfl))
                · exact obR_move _ rfl (want_none rfl) (by kernel_rfl) (eval_out hEA (d := 3) (by kernel_rfl))
                · refine obR_val (want_none rfl) (by kernel_rfl) (fun ph w' hp hpm hw => ?_)
                  have e21 : Fr.tmps[21]? = some (.slice (some ⟨g2, off2, none⟩) rs.length cr) := hEA.dst 1 _ 21 rfl rfl; simp [e21, go_sem]
                · refine obR_val (want_none rfl) (by kernel_rfl) (fun ph w' hp hpm hw => ?_)
                  have e20 : Fr.tmps[20]? = some (.int .i64 (k : Int)) := hEA.dst 0 _ 20 rfl rfl; have e22 : Fr.tmps[22]? = some (.int .i64 (rs.length : Int)) := hEA.dst 2 _ 22 rfl rfl; simp [execOp, e20, e22, hkl, go_sem]
                · exact obR_move _ rfl (want_none rfl) (by kernel_rfl) (eval_dst hEA (j := 3) rfl rfl)
                · exact obR_move _ rfl (want_is hEA (g := 4) (x := true) (b := true) rfl rfl rfl rfl) (by kernel_rfl) (eval_out hEA (d := 0) (by kernel_rfl))
                · exact obR_move _ rfl (want_is hEA (g := 4) (x := true) (b := true) rfl rfl rfl rfl) (by kernel_rfl) (eval_out hEA (d := 4) (by kernel_rfl))
                · refine obR_val (want_is hEA (g := 4) (x := true) (b := true) rfl rfl rfl rfl) (by kernel_rfl) (fun ph w' hp hpm hw => ?_)
                  have e25 : Fr.tmps[25]? = some (.slice (some ⟨g, off, none⟩) hs.length ca) := hEA.dst 5 _ 25 rfl rfl; have e26 : Fr.tmps[26]? = some (.int .i64 (ix : Int)) := hEA.dst 6 _ 26 rfl rfl; simp [execOp, e25, e26, hil, hgi, go_sem]
                · refine obR_val (want_is hEA (g := 4) (x := true) (b := true) rfl rfl rfl rfl) (by kernel_rfl) (fun ph w' hp hpm hw => ?_)
                  have hc0 := (hw.cell (p := ⟨g, off + ix, none⟩) hgw).trans k0
                  have e27 : Fr.tmps[27]? = some (.pointer (some ⟨g, off + ix, none⟩)) := hEA.dst 7 _ 27 rfl rfl; simp [execOp, e27, hc0, go_sem]
                · exact obR_move _ rfl (want_is hEA (g := 4) (x := true) (b := true) rfl rfl rfl rfl) (by kernel_rfl) (eval_out hEA (d := 3) (by kernel_rfl))
                · exact obR_move _ rfl (want_is hEA (g := 4) (x := true) (b := true) rfl rfl rfl rfl) (by kernel_rfl) (eval_out hEA (d := 5) (by kernel_rfl))
                · refine obR_val (want_is hEA (g := 4) (x := true) (b := true) rfl rfl rfl rfl) (by kernel_rfl) (fun ph w' hp hpm hw => ?_)
                  have e29 : Fr.tmps[29]? = some (.slice (some ⟨g2, off2, none⟩) rs.length cr) := hEA.dst 9 _ 29 rfl rfl; have e30 : Fr.tmps[30]? = some (.int .i64 (k : Int)) := hEA.dst 10 _ 30 rfl rfl; simp [execOp, e29, e30, hkl2, hgk, go_sem]
                · refine obR_val (want_is hEA (g := 4) (x := true) (b := true) rfl rfl rfl rfl) (by kernel_rfl) (fun ph w' hp hpm hw => ?_)
                  have hc0 := (hw.cell (p := ⟨g2, off2 + k, none⟩) hg2).trans y0
                  have e31 : Fr.tmps[31]? = some (.pointer (some ⟨g2, off2 + k, none⟩)) := hEA.dst 11 _ 31 rfl rfl; simp [execOp, e31, hc0, go_sem]
                · refine obR_call (q := 0) (f := 31) (args := #[.slice hA hN hK, .slice yA yN yK]) (want_is hEA (g := 4) (x := true) (b := true) rfl rfl rfl rfl) (by kernel_rfl) (fun w' => by have e28 : Fr.tmps[28]? = some (.slice hA hN hK) := hEA.dst 8 _ 28 rfl rfl; have e32 : Fr.tmps[32]? = some (.slice yA yN yK) := hEA.dst 12 _ 32 rfl rfl; simp [e28, e32, go_sem]) ?_
                  intro w' hw
                  refine ((show Calls _ _ _ _ (fun e W' => e = .returned (.bool false) ∧ Below w'.heap.size w' W') from by have := refAhead_any _ _ x y w' (keeps_spots _ _ _ _ _ _ HX.out hw hw.size) (keeps_spots _ _ _ _ _ _ HY.out hw hw.size) hxn hyn; rwa [HC.out] at this)).mono ?_
                  rintro e w2 ⟨rfl, hb⟩
                  exact ⟨_, rfl, fun r' hr hv => ⟨rfl, hw.trans (hb.mono hw.size)⟩⟩
                · refine obR_val (want_is hEA (g := 4) (x := true) (b := true) rfl rfl rfl rfl) (by kernel_rfl) (fun ph w' hp hpm hw => ?_)
                  have e33 : Fr.tmps[33]? = some (.bool false) := hEA.dst 13 _ 33 rfl rfl; simp [execOp, e33, go_sem]
                · refine obR_val (want_none rfl) (by kernel_rfl) (fun ph w' hp hpm hw => ?_)
                  have e24 : Fr.tmps[24]? = some (.bool true) := hEA.dst 4 _ 24 rfl rfl; have e34 : Fr.tmps[34]? = some (.bool true) := hEA.dst 14 _ 34 rfl rfl; simp [execOp, e24, e34, go_sem]
              · intro r w' hw
                simp only [laid, Act.put, List.setIfInBounds_toArray, List.set_cons_succ, List.set_cons_zero, List.getD_cons_succ, List.getD_cons_zero, Nat.zero_add, Nat.reduceAdd]
                have BN := Bz.trans (hw.mono Bz.size)
                clear hw
                go_wp2
                go_roundw
                case rel => exact ⟨k + 1, _, rfl, by omega, by go_num, HKN, BN⟩
                case measure => simp [intOf]; omega
            · have HC := Lib.hid hc
              have HKX := Lib.hid (HK2.out hc)
              clear hc HK1 HK2 HKI
              go_wp2_with fail
              refine wp_region_results (fun r i => ([.int .i64 (k : Int), .slice (some ⟨g2, off2, none⟩) rs.length cr, .int .i64 (rs.length : Int), .bool true, .bool true, .slice (some ⟨g, off, none⟩) hs.length ca, .int .i64 (ix : Int), .pointer (some ⟨g, off + ix, none⟩), .slice hA hN hK, .slice (some ⟨g2, off2, none⟩) rs.length cr, .int .i64 (k : Int), .pointer (some ⟨g2, off2 + k, none⟩), .slice yA yN yK, .bool true, .bool false, .bool false] : List Value).getD i undef) [13] [0, 0, 0, 0, 0, 0, 0, 0, 0, 0, 0, 0, 0, 0, 1, 1] (fun r q w' => (Below wz.heap.size wz w')) (by kernel_rfl) (by kernel_rfl) (fun r => ⟨rfl, rfl, rfl, Nat.le_refl _, fun _ _ => rfl⟩) ?_ ?_
              · refine ObsR_of_ends (by kernel_rfl) ?_
                intro r Fr hEA
                refine ⟨?_, ?_, ?_, ?_, ?_, ?_, ?_, ?_, ?_, ?_, ?_, ?_, ?_, ?_, ?_, ?_, trivial⟩
                · exact obR_move _ rfl (want_none rfl) (by kernel_rfl) (eval_out hEA (d := 5) (by kernel_rfl))
                · exact obR_move _ rfl (want_none rfl) (by kernel_rfl) (eval_out hEA (d := 3) (by kernel_rfl))
                · refine obR_val (want_none rfl) (by kernel_rfl) (fun ph w' hp hpm hw => ?_)
                  have e21 : Fr.tmps[21]? = some (.slice (some ⟨g2, off2, none⟩) rs.length cr) := hEA.dst 1 _ 21 rfl rfl; simp [e21, go_sem]
                · refine obR_val (want_none rfl) (by kernel_rfl) (fun ph w' hp hpm hw => ?_)
                  have e20 : Fr.tmps[20]? = some (.int .i64 (k : Int)) := hEA.dst 0 _ 20 rfl rfl; have e22 : Fr.tmps[22]? = some (.int .i64 (rs.length : Int)) := hEA.dst 2 _ 22 rfl rfl; simp [execOp, e20, e22, hkl, go_sem]
                · exact obR_move _ rfl (want_none rfl) (by kernel_rfl) (eval_dst hEA (j := 3) rfl rfl)
                · exact obR_move _ rfl (want_is hEA (g := 4) (x := true) (b := true) rfl rfl rfl rfl) (by kernel_rfl) (eval_out hEA (d := 0) (by kernel_rfl))
                · exact obR_move _ rfl (want_is hEA (g := 4) (x := true) (b := true) rfl rfl rfl rfl) (by kernel_rfl) (eval_out hEA (d := 4) (by kernel_rfl))
                · refine obR_val (want_is hEA (g := 4) (x := true) (b := true) rfl rfl rfl rfl) (by kernel_rfl) (fun ph w' hp hpm hw => ?_)
                  have e25 : Fr.tmps[25]? = some (.slice (some ⟨g, off, none⟩) hs.length ca) := hEA.dst 5 _ 25 rfl rfl; have e26 : Fr.tmps[26]? = some (.int .i64 (ix : Int)) := hEA.dst 6 _ 26 rfl rfl; simp [execOp, e25, e26, hil, hgi, go_sem]
                · refine obR_val (want_is hEA (g := 4) (x := true) (b := true) rfl rfl rfl rfl) (by kernel_rfl) (fun ph w' hp hpm hw => ?_)
                  have hc0 := (hw.cell (p := ⟨g, off + ix, none⟩) hgw).trans k0
                  have e27 : Fr.tmps[27]? = some (.pointer (some ⟨g, off + ix, none⟩)) := hEA.dst 7 _ 27 rfl rfl; simp [execOp, e27, hc0, go_sem]
                · exact obR_move _ rfl (want_is hEA (g := 4) (x := true) (b := true) rfl rfl rfl rfl) (by kernel_rfl) (eval_out hEA (d := 3) (by kernel_rfl))
                · exact obR_move _ rfl (want_is hEA (g := 4) (x := true) (b := true) rfl rfl rfl rfl) (by kernel_rfl) (eval_out hEA (d := 5) (by kernel_rfl))
                · refine obR_val (want_is hEA (g := 4) (x := true) (b := true) rfl rfl rfl rfl) (by kernel_rfl) (fun ph w' hp hpm hw => ?_)
                  have e29 : Fr.tmps[29]? = some (.slice (some ⟨g2, off2, none⟩) rs.length cr) := hEA.dst 9 _ 29 rfl rfl; have e30 : Fr.tmps[30]? = some (.int .i64 (k : Int)) := hEA.dst 10 _ 30 rfl rfl; simp [execOp, e29, e30, hkl2, hgk, go_sem]
                · refine obR_val (want_is hEA (g := 4) (x := true) (b := true) rfl rfl rfl rfl) (by kernel_rfl) (fun ph w' hp hpm hw => ?_)
                  have hc0 := (hw.cell (p := ⟨g2, off2 + k, none⟩) hg2).trans y0
                  have e31 : Fr.tmps[31]? = some (.pointer (some ⟨g2, off2 + k, none⟩)) := hEA.dst 11 _ 31 rfl rfl; simp [execOp, e31, hc0, go_sem]
                · refine obR_call (q := 0) (f := 31) (args := #[.slice hA hN hK, .slice yA yN yK]) (want_is hEA (g := 4) (x := true) (b := true) rfl rfl rfl rfl) (by kernel_rfl) (fun w' => by have e28 : Fr.tmps[28]? = some (.slice hA hN hK) := hEA.dst 8 _ 28 rfl rfl; have e32 : Fr.tmps[32]? = some (.slice yA yN yK) := hEA.dst 12 _ 32 rfl rfl; simp [e28, e32, go_sem]) ?_
                  intro w' hw
                  refine ((show Calls _ _ _ _ (fun e W' => e = .returned (.bool true) ∧ Below w'.heap.size w' W') from by have := refAhead_any _ _ x y w' (keeps_spots _ _ _ _ _ _ HX.out hw hw.size) (keeps_spots _ _ _ _ _ _ HY.out hw hw.size) hxn hyn; rwa [HC.out] at this)).mono ?_
                  rintro e w2 ⟨rfl, hb⟩
                  exact ⟨_, rfl, fun r' hr hv => ⟨rfl, hw.trans (hb.mono hw.size)⟩⟩
                · refine obR_val (want_is hEA (g := 4) (x := true) (b := true) rfl rfl rfl rfl) (by kernel_rfl) (fun ph w' hp hpm hw => ?_)
                  have e33 : Fr.tmps[33]? = some (.bool true) := hEA.dst 13 _ 33 rfl rfl; simp [execOp, e33, go_sem]
                · refine obR_val (want_none rfl) (by kernel_rfl) (fun ph w' hp hpm hw => ?_)
                  have e24 : Fr.tmps[24]? = some (.bool true) := hEA.dst 4 _ 24 rfl rfl; have e34 : Fr.tmps[34]? = some (.bool false) := hEA.dst 14 _ 34 rfl rfl; simp [execOp, e24, e34, go_sem]
              · intro r w' hw
                simp only [laid, Act.put, List.setIfInBounds_toArray, List.set_cons_succ, List.set_cons_zero, List.getD_cons_succ, List.getD_cons_zero, Nat.zero_add, Nat.reduceAdd]
                obtain ⟨wq, hwq⟩ : ∃ wq, w' = wq := ⟨_, rfl⟩
                rw [hwq] at hw
                rw [hwq]
                have HRq := Lib.hid (keeps_heads _ _ _ _ _ _ HR.out hw hw.size)
                have HEq := Lib.hid (HE.out.keep hw hw.size)
                have HXq := Lib.hid (keeps_spots _ _ _ _ _ _ HX.out hw hw.size)
                have k0 := (hw.cell (p := ⟨g, off + ix, none⟩) hgw).trans k0
                have hgq : g < wq.heap.size := Nat.lt_of_lt_of_le hgw hw.size
                have B := B.trans (hw.mono B.size)
                clear hw hwq
                obtain ⟨AC, hrC, hSC⟩ := heads_to HRq.out rfl hcr k (by omega)
                obtain ⟨AD, hrD, hSD⟩ := heads_from HRq.out rfl k (by omega)
                have HCut := Lib.hid hSC
                have HDrop := Lib.hid hSD
                have HE9 : Hid (Each wq.heap.size wq (rs.take k ++ (hA, hN, hK) :: rs.drop k) (sortG (xs.take (ix + 1)))) := Lib.hid (by
                  rw [HSO.out, insG_at HKX.out]
                  exact (HEq.out.take k).append ((Each.one (h := (hA, hN, hK)) HXq.out).append (HEq.out.drop k)))
                clear hSC hSD
                go_wp2_with fail
                refine wp_region_any_tail ([_, _, _, _, _, _, _, _, _, _, _, _, _, _, _]) ([_]) (fun r i => ([r 0, .slice (some ⟨g2, off2, none⟩) rs.length cr, .int .i64 (k : Int), .slice AC k cr, r 1, .slice (some ⟨g, off, none⟩) hs.length ca, .int .i64 (ix : Int), .pointer (some ⟨g, off + ix, none⟩), .slice hA hN hK, r 2, r 3, .slice (some ⟨g2, off2, none⟩) rs.length cr, .int .i64 (k : Int), .slice AD (rs.length - k) (cr - k), r 4] : List Value).getD i undef) [0, 4, 9, 10, 14] [[], [], [], [], [0], [], [], [], [], [], [1, 2], [], [], [], [3]] (fun r D w' => Ins wq.heap.size wq (hA, hN, hK) (rs.take k) (rs.drop k) r D w') (by kernel_rfl) (by kernel_rfl) (by kernel_rfl) (fun r => Ins.start wq { wq with drawn := wq.drawn + 1 } _ _ _ ⟨rfl, rfl, rfl, Nat.le_refl _, fun _ _ => rfl⟩ r) ?_ ?_
                · refine ObsV_of_ends (by kernel_rfl) ?_
                  intro r Fr hEA
                  refine ⟨?_, ?_, ?_, ?_, ?_, ?_, ?_, ?_, ?_, ?_, ?_, ?_, ?_, ?_, ?_, trivial⟩
                  · refine obS_make (q := 0) (want_none rfl) (by kernel_rfl) (fun D w' hlo hD hw => ?_)
                    exact ⟨.slice (some ⟨w'.heap.size, 0, none⟩) 0 0, w'.alloc (.cells #[] 24), by simp [execOp, go_sem], fun r' hr hv => ⟨hv, hw.q0 hD hr hv⟩⟩
                  · exact obS_move _ rfl (want_none rfl) (by kernel_rfl) (eval_outV hEA (d := 3) (by kernel_rfl))
                  · exact obS_move _ rfl (want_none rfl) (by kernel_rfl) (eval_outV hEA (d := 5) (by kernel_rfl))
                  · refine obS_val (want_none rfl) (by kernel_rfl) (fun D w' hlo hw => ?_)
                    have e39 : Fr.tmps[39]? = some (.slice (some ⟨g2, off2, none⟩) rs.length cr) := hEA.dst 1 _ 39 (by decide) rfl rfl; have e40 : Fr.tmps[40]? = some (.int .i64 (k : Int)) := hEA.dst 2 _ 40 (by decide) rfl rfl; simp [execOp, e39, e40, hrC, go_sem]
                  · refine obS_make (q := 1) (want_none rfl) (by kernel_rfl) (fun D w' hlo hD hw => ?_)
                    have h0 := hlo 0 (by decide)
                    exact run_append_heads_then w' (.tmp 38) (.tmp 41) rfl wq.heap.size (r 0) 0 [] (eval_dstT hEA (j := 0) (by decide) rfl rfl) (hw.o0 h0 hD) w'.heap.size _ (rs.take k) (eval_dstT hEA (j := 3) (by decide) rfl rfl) (keeps_heads _ _ _ _ _ _ HCut.out hw.B hw.sz) (by rw [List.length_take]; omega) hw.sz (fun v' w2 hown hg r' hr hv => ⟨hv, hw.q1 h0 hD hr hv hown hg⟩)
                  · exact obS_move _ rfl (want_none rfl) (by kernel_rfl) (eval_outV hEA (d := 0) (by kernel_rfl))
                  · exact obS_move _ rfl (want_none rfl) (by kernel_rfl) (eval_outV hEA (d := 4) (by kernel_rfl))
                  · refine obS_val (want_none rfl) (by kernel_rfl) (fun D w' hlo hw => ?_)
                    have e43 : Fr.tmps[43]? = some (.slice (some ⟨g, off, none⟩) hs.length ca) := hEA.dst 5 _ 43 (by decide) rfl rfl; have e44 : Fr.tmps[44]? = some (.int .i64 (ix : Int)) := hEA.dst 6 _ 44 (by decide) rfl rfl; simp [execOp, e43, e44, hil, hgi, go_sem]
                  · refine obS_val (want_none rfl) (by kernel_rfl) (fun D w' hlo hw => ?_)
                    have hc0 := (hw.B.cell (p := ⟨g, off + ix, none⟩) hgq).trans k0
                    have e45 : Fr.tmps[45]? = some (.pointer (some ⟨g, off + ix, none⟩)) := hEA.dst 7 _ 45 (by decide) rfl rfl; simp [execOp, e45, hc0, go_sem]
                  · refine obS_make (q := 2) (want_none rfl) (by kernel_rfl) (fun D w' hlo hD hw => ?_)
                    have e46 : Fr.tmps[46]? = some (.slice hA hN hK) := hEA.dst 8 _ 46 (by decide) rfl rfl
                    exact ⟨.slice (some ⟨w'.heap.size, 0, none⟩) 1 1, w'.alloc (.cells #[.slice hA hN hK] 24), by simp [execOp, e46, go_sem], fun r' hr hv => ⟨hv, hw.q2 hD hr hv⟩⟩
                  · refine obS_make (q := 3) (want_none rfl) (by kernel_rfl) (fun D w' hlo hD hw => ?_)
                    have h1 := hlo 1 (by decide)
                    have h2 := hlo 2 (by decide)
                    have ho2 : w'.ownsRow wq.heap.size 24 1 (r 2) [((hA, hN, hK) : Hd)].length ([((hA, hN, hK) : Hd)].flatMap hC) := by simpa using hw.o2 h2 hD
                    exact run_append_heads_then w' (.tmp 42) (.tmp 47) rfl wq.heap.size (r 1) _ _ (eval_dstT hEA (j := 4) (by decide) rfl rfl) (hw.o1 h1 hD) w'.heap.size _ [(hA, hN, hK)] (eval_dstT hEA (j := 9) (by decide) rfl rfl) (own_heads ho2) (by simp only [List.length_take, List.length_cons, List.length_nil]; omega) hw.sz (fun v' w2 hown hg r' hr hv => ⟨hv, hw.q3 h1 h2 hD hr hv hown hg⟩)
                  · exact obS_move _ rfl (want_none rfl) (by kernel_rfl) (eval_outV hEA (d := 3) (by kernel_rfl))
                  · exact obS_move _ rfl (want_none rfl) (by kernel_rfl) (eval_outV hEA (d := 5) (by kernel_rfl))
                  · refine obS_val (want_none rfl) (by kernel_rfl) (fun D w' hlo hw => ?_)
                    have e49 : Fr.tmps[49]? = some (.slice (some ⟨g2, off2, none⟩) rs.length cr) := hEA.dst 11 _ 49 (by decide) rfl rfl; have e50 : Fr.tmps[50]? = some (.int .i64 (k : Int)) := hEA.dst 12 _ 50 (by decide) rfl rfl; simp [execOp, e49, e50, hrD, go_sem]
                  · refine obS_make (q := 4) (want_none rfl) (by kernel_rfl) (fun D w' hlo hD hw => ?_)
                    have h3 := hlo 3 (by decide)
                    exact run_append_heads_then w' (.tmp 48) (.tmp 51) rfl wq.heap.size (r 3) _ _ (eval_dstT hEA (j := 10) (by decide) rfl rfl) (hw.o3 h3 hD) w'.heap.size _ (rs.drop k) (eval_dstT hEA (j := 13) (by decide) rfl rfl) (keeps_heads _ _ _ _ _ _ HDrop.out hw.B hw.sz) (by simp only [List.length_take, List.length_drop]; omega) hw.sz (fun v' w2 hown hg r' hr hv => ⟨hv, hw.q4 h3 hD hr hv hown hg⟩)
                · intro r w' hw
                  simp only [laid, Act.put, List.setIfInBounds_toArray, List.set_cons_succ, List.set_cons_zero, List.getD_cons_succ, List.getD_cons_zero, Nat.zero_add, Nat.reduceAdd]
                  have hown := hw.o4 (by decide)
                  have HN : Hid (Heads w'.heap.size w' (rs.take k ++ (hA, hN, hK) :: rs.drop k) [r 4]) := Lib.hid (by
                    refine own_heads (base := wq.heap.size) ?_
                    have e1 : (rs.take k ++ (hA, hN, hK) :: rs.drop k).length = (rs.take k).length + 1 + (rs.drop k).length := by simp only [List.length_append, List.length_cons]; omega
                    have e2 : (rs.take k ++ (hA, hN, hK) :: rs.drop k).flatMap hC = (rs.take k).flatMap hC ++ hC (hA, hN, hK) ++ (rs.drop k).flatMap hC := by simp
                    rw [e1, e2]
                    exact hown)
                  have HEE := Lib.hid (HE9.out.keep hw.B hw.sz)
                  have HBB := Lib.hid (B.trans (hw.B.mono B.size))
                  obtain ⟨r4, hr4⟩ : ∃ r4, r 4 = r4 := ⟨_, rfl⟩
                  rw [hr4] at HN
                  try rw [hr4]
                  clear hown hw hr4
                  go_wp2
                  go_roundw
                  case rel => exact ⟨ix + 1, _, _, _, rfl, rfl, by omega, by go_num, HN.out, HEE.out, HBB.out⟩
                  case measure => simp [intOf]; omega
          · have hkl : decide (k < rs.length) = false := decide_eq_false hkr
            have HKX : Hid (kIx x so = k) := Lib.hid (kIx_end (by omega) HKI.out)
            clear HKI
            go_wp2_with fail
            refine wp_region_results (fun r i => ([.int .i64 (k : Int), .slice AR rs.length cr, .int .i64 (rs.length : Int), .bool false, .bool false, undef, undef, undef, undef, undef, undef, undef, undef, undef, undef, .bool false] : List Value).getD i undef) [] [0, 0, 0, 0, 0, 0, 0, 0, 0, 0, 0, 0, 0, 0, 0, 0] (fun r q w' => (Below wz.heap.size wz w')) (by kernel_rfl) (by kernel_rfl) (fun r => ⟨rfl, rfl, rfl, Nat.le_refl _, fun _ _ => rfl⟩) ?_ ?_
            · refine ObsR_of_ends (by kernel_rfl) ?_
              intro r Fr hEA
              refine ⟨?_, ?_, ?_, ?_, ?_, ?_, ?_, ?_, ?_, ?_, ?_, ?_, ?_, ?_, ?_, ?_, trivial⟩
              · exact obR_move _ rfl (want_none rfl) (by kernel_rfl) (eval_out hEA (d := 5) (by kernel_rfl))
              · exact obR_move _ rfl (want_none rfl) (by kernel_rfl) (eval_out hEA (d := 3) (by kernel_rfl))
              · refine obR_val (want_none rfl) (by kernel_rfl) (fun ph w' hp hpm hw => ?_)
                have e21 : Fr.tmps[21]? = some (.slice AR rs.length cr) := hEA.dst 1 _ 21 rfl rfl; simp [e21, go_sem]
              · refine obR_val (want_none rfl) (by kernel_rfl) (fun ph w' hp hpm hw => ?_)
                have e20 : Fr.tmps[20]? = some (.int .i64 (k : Int)) := hEA.dst 0 _ 20 rfl rfl; have e22 : Fr.tmps[22]? = some (.int .i64 (rs.length : Int)) := hEA.dst 2 _ 22 rfl rfl; simp [execOp, e20, e22, hkl, go_sem]
              · exact obR_move _ rfl (want_none rfl) (by kernel_rfl) (eval_dst hEA (j := 3) rfl rfl)
              · exact obR_skip (want_is hEA (g := 4) (x := false) (b := true) rfl rfl rfl rfl) (by kernel_rfl) rfl
              · exact obR_skip (want_is hEA (g := 4) (x := false) (b := true) rfl rfl rfl rfl) (by kernel_rfl) rfl
              · exact obR_skip (want_is hEA (g := 4) (x := false) (b := true) rfl rfl rfl rfl) (by kernel_rfl) rfl
              · exact obR_skip (want_is hEA (g := 4) (x := false) (b := true) rfl rfl rfl rfl) (by kernel_rfl) rfl
              · exact obR_skip (want_is hEA (g := 4) (x := false) (b := true) rfl rfl rfl rfl) (by kernel_rfl) rfl
              · exact obR_skip (want_is hEA (g := 4) (x := false) (b := true) rfl rfl rfl rfl) (by kernel_rfl) rfl
              · exact obR_skip (want_is hEA (g := 4) (x := false) (b := true) rfl rfl rfl rfl) (by kernel_rfl) rfl
              · exact obR_skip (want_is hEA (g := 4) (x := false) (b := true) rfl rfl rfl rfl) (by kernel_rfl) rfl
              · exact obR_skip (want_is hEA (g := 4) (x := false) (b := true) rfl rfl rfl rfl) (by kernel_rfl) rfl
              · exact obR_skip (want_is hEA (g := 4) (x := false) (b := true) rfl rfl rfl rfl) (by kernel_rfl) rfl
              · refine obR_val (want_none rfl) (by kernel_rfl) (fun ph w' hp hpm hw => ?_)
                have e24 : Fr.tmps[24]? = some (.bool false) := hEA.dst 4 _ 24 rfl rfl; have e34 : Fr.tmps[34]? = some (undef) := hEA.dst 14 _ 34 rfl rfl; simp [execOp, e24, e34, go_sem]
            · intro r w' hw
              simp only [laid, Act.put, List.setIfInBounds_toArray, List.set_cons_succ, List.set_cons_zero, List.getD_cons_succ, List.getD_cons_zero, Nat.zero_add, Nat.reduceAdd]
              obtain ⟨wq, hwq⟩ : ∃ wq, w' = wq := ⟨_, rfl⟩
              rw [hwq] at hw
              rw [hwq]
              have HRq := Lib.hid (keeps_heads _ _ _ _ _ _ HR.out hw hw.size)
              have HEq := Lib.hid (HE.out.keep hw hw.size)
              have HXq := Lib.hid (keeps_spots _ _ _ _ _ _ HX.out hw hw.size)
              have k0 := (hw.cell (p := ⟨g, off + ix, none⟩) hgw).trans k0
              have hgq : g < wq.heap.size := Nat.lt_of_lt_of_le hgw hw.size
              have B := B.trans (hw.mono B.size)
              clear hw hwq
              obtain ⟨AC, hrC, hSC⟩ := heads_to HRq.out rfl hcr k (by omega)
              obtain ⟨AD, hrD, hSD⟩ := heads_from HRq.out rfl k (by omega)
              have HCut := Lib.hid hSC
              have HDrop := Lib.hid hSD
              have HE9 : Hid (Each wq.heap.size wq (rs.take k ++ (hA, hN, hK) :: rs.drop k) (sortG (xs.take (ix + 1)))) := Lib.hid (by
                rw [HSO.out, insG_at HKX.out]
                exact (HEq.out.take k).append ((Each.one (h := (hA, hN, hK)) HXq.out).append (HEq.out.drop k)))
              clear hSC hSD
              go_wp2_with fail
              refine wp_region_any_tail ([_, _, _, _, _, _, _, _, _, _, _, _, _, _, _]) ([_]) (fun r i => ([r 0, .slice AR rs.length cr, .int .i64 (k : Int), .slice AC k cr, r 1, .slice (some ⟨g, off, none⟩) hs.length ca, .int .i64 (ix : Int), .pointer (some ⟨g, off + ix, none⟩), .slice hA hN hK, r 2, r 3, .slice AR rs.length cr, .int .i64 (k : Int), .slice AD (rs.length - k) (cr - k), r 4] : List Value).getD i undef) [0, 4, 9, 10, 14] [[], [], [], [], [0], [], [], [], [], [], [1, 2], [], [], [], [3]] (fun r D w' => Ins wq.heap.size wq (hA, hN, hK) (rs.take k) (rs.drop k) r D w') (by kernel_rfl) (by kernel_rfl) (by kernel_rfl) (fun r => Ins.start wq { wq with drawn := wq.drawn + 1 } _ _ _ ⟨rfl, rfl, rfl, Nat.le_refl _, fun _ _ => rfl⟩ r) ?_ ?_
              · refine ObsV_of_ends (by kernel_rfl) ?_
                intro r Fr hEA
                refine ⟨?_, ?_, ?_, ?_, ?_, ?_, ?_, ?_, ?_, ?_, ?_, ?_, ?_, ?_, ?_, trivial⟩
                · refine obS_make (q := 0) (want_none rfl) (by kernel_rfl) (fun D w' hlo hD hw => ?_)
                  exact ⟨.slice (some ⟨w'.heap.size, 0, none⟩) 0 0, w'.alloc (.cells #[] 24), by simp [execOp, go_sem], fun r' hr hv => ⟨hv, hw.q0 hD hr hv⟩⟩
                · exact obS_move _ rfl (want_none rfl) (by kernel_rfl) (eval_outV hEA (d := 3) (by kernel_rfl))
                · exact obS_move _ rfl (want_none rfl) (by kernel_rfl) (eval_outV hEA (d := 5) (by kernel_rfl))
                · refine obS_val (want_none rfl) (by kernel_rfl) (fun D w' hlo hw => ?_)
                  have e39 : Fr.tmps[39]? = some (.slice AR rs.length cr) := hEA.dst 1 _ 39 (by decide) rfl rfl; have e40 : Fr.tmps[40]? = some (.int .i64 (k : Int)) := hEA.dst 2 _ 40 (by decide) rfl rfl; simp [execOp, e39, e40, hrC, go_sem]
                · refine obS_make (q := 1) (want_none rfl) (by kernel_rfl) (fun D w' hlo hD hw => ?_)
                  have h0 := hlo 0 (by decide)
                  exact run_append_heads_then w' (.tmp 38) (.tmp 41) rfl wq.heap.size (r 0) 0 [] (eval_dstT hEA (j := 0) (by decide) rfl rfl) (hw.o0 h0 hD) w'.heap.size _ (rs.take k) (eval_dstT hEA (j := 3) (by decide) rfl rfl) (keeps_heads _ _ _ _ _ _ HCut.out hw.B hw.sz) (by rw [List.length_take]; omega) hw.sz (fun v' w2 hown hg r' hr hv => ⟨hv, hw.q1 h0 hD hr hv hown hg⟩)
                · exact obS_move _ rfl (want_none rfl) (by kernel_rfl) (eval_outV hEA (d := 0) (by kernel_rfl))
                · exact obS_move _ rfl (want_none rfl) (by kernel_rfl) (eval_outV hEA (d := 4) (by kernel_rfl))
                · refine obS_val (want_none rfl) (by kernel_rfl) (fun D w' hlo hw => ?_)
                  have e43 : Fr.tmps[43]? = some (.slice (some ⟨g, off, none⟩) hs.length ca) := hEA.dst 5 _ 43 (by decide) rfl rfl; have e44 : Fr.tmps[44]? = some (.int .i64 (ix : Int)) := hEA.dst 6 _ 44 (by decide) rfl rfl; simp [execOp, e43, e44, hil, hgi, go_sem]
                · refine obS_val (want_none rfl) (by kernel_rfl) (fun D w' hlo hw => ?_)
                  have hc0 := (hw.B.cell (p := ⟨g, off + ix, none⟩) hgq).trans k0
                  have e45 : Fr.tmps[45]? = some (.pointer (some ⟨g, off + ix, none⟩)) := hEA.dst 7 _ 45 (by decide) rfl rfl; simp [execOp, e45, hc0, go_sem]
                · refine obS_make (q := 2) (want_none rfl) (by kernel_rfl) (fun D w' hlo hD hw => ?_)
                  have e46 : Fr.tmps[46]? = some (.slice hA hN hK) := hEA.dst 8 _ 46 (by decide) rfl rfl
                  exact ⟨.slice (some ⟨w'.heap.size, 0, none⟩) 1 1, w'.alloc (.cells #[.slice hA hN hK] 24), by simp [execOp, e46, go_sem], fun r' hr hv => ⟨hv, hw.q2 hD hr hv⟩⟩
                · refine obS_make (q := 3) (want_none rfl) (by kernel_rfl) (fun D w' hlo hD hw => ?_)
                  have h1 := hlo 1 (by decide)
                  have h2 := hlo 2 (by decide)
                  have ho2 : w'.ownsRow wq.heap.size 24 1 (r 2) [((hA, hN, hK) : Hd)].length ([((hA, hN, hK) : Hd)].flatMap hC) := by simpa using hw.o2 h2 hD
                  exact run_append_heads_then w' (.tmp 42) (.tmp 47) rfl wq.heap.size (r 1) _ _ (eval_dstT hEA (j := 4) (by decide) rfl rfl) (hw.o1 h1 hD) w'.heap.size _ [(hA, hN, hK)] (eval_dstT hEA (j := 9) (by decide) rfl rfl) (own_heads ho2) (by simp only [List.length_take, List.length_cons, List.length_nil]; omega) hw.sz (fun v' w2 hown hg r' hr hv => ⟨hv, hw.q3 h1 h2 hD hr hv hown hg⟩)
                · exact obS_move _ rfl (want_none rfl) (by kernel_rfl) (eval_outV hEA (d := 3) (by kernel_rfl))
                · exact obS_move _ rfl (want_none rfl) (by kernel_rfl) (eval_outV hEA (d := 5) (by kernel_rfl))
                · refine obS_val (want_none rfl) (by kernel_rfl) (fun D w' hlo hw => ?_)
                  have e49 : Fr.tmps[49]? = some (.slice AR rs.length cr) := hEA.dst 11 _ 49 (by decide) rfl rfl; have e50 : Fr.tmps[50]? = some (.int .i64 (k : Int)) := hEA.dst 12 _ 50 (by decide) rfl rfl; simp [execOp, e49, e50, hrD, go_sem]
                · refine obS_make (q := 4) (want_none rfl) (by kernel_rfl) (fun D w' hlo hD hw => ?_)
                  have h3 := hlo 3 (by decide)
                  exact run_append_heads_then w' (.tmp 48) (.tmp 51) rfl wq.heap.size (r 3) _ _ (eval_dstT hEA (j := 10) (by decide) rfl rfl) (hw.o3 h3 hD) w'.heap.size _ (rs.drop k) (eval_dstT hEA (j := 13) (by decide) rfl rfl) (keeps_heads _ _ _ _ _ _ HDrop.out hw.B hw.sz) (by simp only [List.length_take, List.length_drop]; omega) hw.sz (fun v' w2 hown hg r' hr hv => ⟨hv, hw.q4 h3 hD hr hv hown hg⟩)
              · intro r w' hw
                simp only [laid, Act.put, List.setIfInBounds_toArray, List.set_cons_succ, List.set_cons_zero, List.getD_cons_succ, List.getD_cons_zero, Nat.zero_add, Nat.reduceAdd]
                have hown := hw.o4 (by decide)
                have HN : Hid (Heads w'.heap.size w' (rs.take k ++ (hA, hN, hK) :: rs.drop k) [r 4]) := Lib.hid (by
                  refine own_heads (base := wq.heap.size) ?_
                  have e1 : (rs.take k ++ (hA, hN, hK) :: rs.drop k).length = (rs.take k).length + 1 + (rs.drop k).length := by simp only [List.length_append, List.length_cons]; omega
                  have e2 : (rs.take k ++ (hA, hN, hK) :: rs.drop k).flatMap hC = (rs.take k).flatMap hC ++ hC (hA, hN, hK) ++ (rs.drop k).flatMap hC := by simp
                  rw [e1, e2]
                  exact hown)
                have HEE := Lib.hid (HE9.out.keep hw.B hw.sz)
                have HBB := Lib.hid (B.trans (hw.B.mono B.size))
                obtain ⟨r4, hr4⟩ : ∃ r4, r 4 = r4 := ⟨_, rfl⟩
                rw [hr4] at HN
                try rw [hr4]
                clear hown hw hr4
                go_wp2
                go_roundw
                case rel => exact ⟨ix + 1, _, _, _, rfl, rfl, by omega, by go_num, HN.out, HEE.out, HBB.out⟩
                case measure => simp [intOf]; omega
    · have hd : decide (ix < hs.length) = false := decide_eq_false hlt
      have hie : xs.take ix = xs := List.take_of_length_le (by have := HLN.out; omega)
      rw [hie] at HE
      obtain ⟨so, hso⟩ : ∃ so, sortG xs = so := ⟨_, rfl⟩
      rw [hso] at HE HM
      have HSO := Lib.hid hso
      have HYB : Hid (∀ y ∈ so, (spo y).length ≤ 100000 ∧ htO y ≤ 30) := Lib.hid fun y hy => HXS.out y (sortG_mem xs xs.length (Nat.le_refl _) y (by rw [List.take_of_length_le (Nat.le_refl _), hso]; exact hy))
      have HSL := Lib.hid HE.out.1
      have HMO : Hid (spo (mergeO xs) = spo (so.foldl graftO none)) := Lib.hid (by rw [← hso]; rfl)
      clear hie hlt hso
      go_wp2_with fail
      try rw [hd]
      clear hd
      go_loopw [6, 7] (fun ov jv wz => ∃ (j : Nat) (wq : World) (vq : Value), wq = wz ∧ vq = ov ∧ j ≤ rs.length ∧ jv = .int .i64 (j : Int) ∧ Spots wz.heap.size wz (spo ((so.take j).foldl graftO none)) [ov] ∧ Below wr.heap.size wr wz) (fun _ jv _ => rs.length - (intOf jv).toNat)
      case atStart => exact ⟨0, _, _, rfl, rfl, Nat.zero_le _, rfl, own_spots (World.ownsRow_nil _ wr.heap.size _ _), Below.refl _ _⟩
      case round =>
        obtain ⟨j, wz, ov, rfl, rfl, hj, rfl, ho, Bz⟩ := hrel
        obtain ⟨oA, oK, rfl, -, -, -⟩ := spots_at ho
        by_cases hjr : j < rs.length
        · have hd : decide (j < rs.length) = true := decide_eq_true hjr
          have hjl : (j : Int) < (rs.length : Int) := by omega
          have hgj : (0 : Int) ≤ (j : Int) := by omega
          obtain ⟨g2, off2, rfl, hg2n, hy0⟩ := HRP.out j hjr
          have y0 := (Bz.cell (p := ⟨g2, off2 + j, none⟩) hg2n).trans hy0
          have hjs : j < so.length := by have := HSL.out; omega
          have hY := keeps_spots _ _ _ _ _ _ (each_at HE.out j hjr hjs) Bz Bz.size
          have HYL := Lib.hid (HYB.out _ (List.getElem_mem hjs))
          have HOL := Lib.hid (HM.out j (by have := HSL.out; omega))
          have HF : Hid ((so.take (j + 1)).foldl graftO none = graftO ((so.take j).foldl graftO none) so[j]) := Lib.hid (by rw [List.take_succ_eq_append_getElem hjs, List.foldl_append]; rfl)
          obtain ⟨⟨yA, yN, yK⟩, hq⟩ : ∃ q, rs[j] = q := ⟨_, rfl⟩
          rw [hq] at y0 hY
          obtain ⟨y, hye⟩ : ∃ y, so[j] = y := ⟨_, rfl⟩
          rw [hye] at hY HYL HF
          simp only at y0 hY
          have HY := Lib.hid hY
          have HOV := Lib.hid ho
          clear hq hye hy0 hg2n hY ho
          go_wp2_with fail
          refine (refGraft_any _ _ _ y wz HOV.out HY.out HOL.out.1 HYL.out.1 HOL.out.2 HYL.out.2).mono ?_
          rintro e w2 ⟨v2, rfl, hv2, hb⟩
          obtain ⟨nA, nK, rfl, -, -, -⟩ := spots_at hv2
          have HV2 : Hid (Spots w2.heap.size w2 (spo ((so.take (j + 1)).foldl graftO none)) [.slice nA (spo (graftO ((so.take j).foldl graftO none) y)).length nK]) := Lib.hid (by rw [HF.out]; exact hv2)
          have BN := Bz.trans (hb.mono Bz.size)
          clear hv2 hb
          go_wp2
          go_roundw
          case rel => exact ⟨j + 1, _, _, rfl, rfl, by omega, by go_num, HV2.out, BN⟩
          case measure => simp [intOf]; omega
        · have hd : decide (j < rs.length) = false := decide_eq_false hjr
          have hje : so.take j = so := List.take_of_length_le (by have := HSL.out; omega)
          have e2 : spo (so.foldl graftO none) = spo ((so.take j).foldl graftO none) := by rw [hje]
          have HOV : Hid (Spots wz.heap.size wz (spo (so.foldl graftO none)) [.slice oA (spo ((so.take j).foldl graftO none)).length oK]) := Lib.hid (by rw [e2]; exact ho)
          clear e2
          have BB := B.trans (Bz.mono B.size)
          clear ho hje hjr
          go_wp2
          go_ret
          rw [HMO.out]
          exact ⟨_, rfl, HOV.out, BB⟩

end Go.Proofs.Ytokhaldnakjiaaa
