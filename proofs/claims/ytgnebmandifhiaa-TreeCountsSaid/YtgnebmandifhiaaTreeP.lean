/- The bytes of trees; lodge/tree's Print, by a strings.Builder, and the document's. Condition: the slice reads as spots, of at most a million. -/
import Derived.Test.YtgnebmandifhiaaTreeL
import Derived.Test.YtgnebmandifhiaaMemP
import Derived.Test.YtgnebmandifhiaaBld
import Derived.Deep.RegionHeld3
namespace Go.Proofs.Ytgnebmandifhiaa
open Go Go.RowKit
set_option linter.unusedVariables false

theorem Bld.next {B b : Nat} {l : List UInt8} {w w' : World} (h : Bld B b l w) (hb : Below w.heap.size w w') : Bld B b l w' := by
  have go : ∀ p, Lib.BuilderAt 59 5 B b p (Lib.byteCells l) w → Lib.BuilderAt 59 5 B b p (Lib.byteCells l) w' := fun p h => by
    have hlt := h.lt
    obtain ⟨hB, v, hbk, hown, hne⟩ := h
    exact ⟨hB, v, (hb.block b hlt).trans hbk, owns_below hown hb, hne⟩
  rcases h with h | h
  · exact Or.inl (go _ h)
  · exact Or.inr (go _ h)
theorem Bld.lt {B b : Nat} {l : List UInt8} {w : World} (h : Bld B b l w) : b < w.heap.size := by
  rcases h with h | h
  · exact h.lt
  · exact h.lt
theorem Bld.le {B b : Nat} {l : List UInt8} {w : World} (h : Bld B b l w) : B ≤ w.heap.size := by
  rcases h with h | h
  · exact Nat.le_trans h.1 (Nat.le_of_lt h.lt)
  · exact Nat.le_trans h.1 (Nat.le_of_lt h.lt)
theorem lay_take_succ (n : Int) (xs : List Sp) (k : Nat) (h : k < xs.length) : layN n ++ laySs (xs.take (k + 1)) = layN n ++ laySs (xs.take k) ++ layS xs[k] := by
  rw [List.take_succ_eq_append_getElem h, laySs_snoc, List.append_assoc]
theorem lay_take_le (n : Int) (xs : List Sp) (k : Nat) (hk : k ≤ 1000000) : (layN n ++ laySs (xs.take k)).length ≤ 12000004 := by
  have h1 := laySs_le (xs.take k)
  have h2 := List.length_take_le k xs
  simp only [List.length_append, layN_length]
  omega

set_option maxRecDepth 100000 in
set_option maxHeartbeats 4000000 in
theorem printSpot_any (f : Bool) (a b : Int) (w : World) : Calls Try.prog 36 #[vS (f, a, b)] w fun e W' => e = .returned (.string (tx (layS (f, a, b)))) ∧ Below w.heap.size w W' := by
  cases f
  · go_enter Try.func36, Try.ntmps36
    go_wp2_with fail
    obtain ⟨W0, hW0, B⟩ : ∃ W0, w.alloc (.cells #[.bool false, .int .i64 a, .int .i64 b] 46) = W0 ∧ Below w.heap.size w W0 := ⟨_, rfl, below_new _ _⟩
    rw [hW0]
    clear hW0
    refine (layNum_any 0 W0).mono ?_
    rintro e W1 ⟨rfl, B1⟩
    go_wp2
    go_ret
    exact ⟨rfl, B.trans (B1.mono B.size)⟩
  · go_enter Try.func36, Try.ntmps36
    go_wp2_with fail
    obtain ⟨W0, hW0, b0, B⟩ : ∃ W0, w.alloc (.cells #[.bool true, .int .i64 a, .int .i64 b] 46) = W0 ∧ Box W0 w.heap.size [.bool true, .int .i64 a, .int .i64 b] ∧ Below w.heap.size w W0 := ⟨_, rfl, Box.new w _ _, below_new _ _⟩
    rw [hW0]
    clear hW0
    have r0 := tx_room (a := layN 1) (b := layM a b) (by simp [layN_length, layM_length])
    refine wp_region_plan (fun i => ([.string (tx (layN 1)), .pointer (some ⟨w.heap.size, 1, none⟩), .agg #[.int .i64 a, .int .i64 b], .string (tx (layM a b)), .string (tx (layN 1 ++ layM a b)), .string (tx (layN 1 ++ layM a b))] : List Value).getD i undef) [0, 3] [0, 0, 0, 1, 2, 2] (fun _ w' => Below W0.heap.size W0 w') (by kernel_rfl) (by kernel_rfl) (⟨rfl, rfl, rfl, Nat.le_refl _, fun _ _ => rfl⟩) ?_ ?_
    · refine Obs_of_ends (by kernel_rfl) ?_
      intro Fr hEA
      refine ⟨?_, ?_, ?_, ?_, ?_, ?_, trivial⟩
      · refine ob_call (q := 0) (f := 35) (args := #[.int .i64 1]) (want_none rfl) (by kernel_rfl) (fun w' => by simp [go_sem]) ?_
        intro w' hw
        refine (layNum_any 1 w').mono ?_
        rintro e w2 ⟨rfl, hb⟩
        exact ⟨rfl, hw.trans (hb.mono hw.size)⟩
      · refine ob_val (want_none rfl) (by kernel_rfl) (fun ph w' hp hpm hw => ?_)
        have e1 : Fr.tmps[1]? = some (.pointer (some ⟨w.heap.size, 0, none⟩)) := at_out hEA (d := 1) (by kernel_rfl); simp [execOp, e1, go_sem]
      · refine ob_val (want_none rfl) (by kernel_rfl) (fun ph w' hp hpm hw => ?_)
        have hc0 := (hw.cell (p := ⟨w.heap.size, 1, none⟩) b0.lt).trans (b0.c 1 _ rfl)
        have hc1 := (hw.cell (p := ⟨w.heap.size, 2, none⟩) b0.lt).trans (b0.c 2 _ rfl)
        have e8 : Fr.tmps[8]? = some (.pointer (some ⟨w.heap.size, 1, none⟩)) := hEA.dst 1 _ 8 rfl rfl; simp [execOp, e8, hc0, hc1, go_sem]
      · refine ob_call (q := 1) (f := 49) (args := #[.agg #[.int .i64 a, .int .i64 b]]) (want_none rfl) (by kernel_rfl) (fun w' => by have e9 : Fr.tmps[9]? = some (.agg #[.int .i64 a, .int .i64 b]) := hEA.dst 2 _ 9 rfl rfl; simp [e9, go_sem]) ?_
        intro w' hw
        refine (print_any a b w').mono ?_
        rintro e w2 ⟨rfl, hb⟩
        exact ⟨rfl, hw.trans (hb.mono hw.size)⟩
      · refine ob_val (want_none rfl) (by kernel_rfl) (fun ph w' hp hpm hw => ?_)
        have e7 : Fr.tmps[7]? = some (.string (tx (layN 1))) := hEA.dst 0 _ 7 rfl rfl; have e10 : Fr.tmps[10]? = some (.string (tx (layM a b))) := hEA.dst 3 _ 10 rfl rfl; simp [execOp, e7, e10, r0, tx_app, go_sem]
      · refine ob_val (want_none rfl) (by kernel_rfl) (fun ph w' hp hpm hw => ?_)
        have e11 : Fr.tmps[11]? = some (.string (tx (layN 1 ++ layM a b))) := hEA.dst 4 _ 11 rfl rfl; simp [execOp, e11, go_sem]
    · intro w' hw
      simp only [laid, Act.put, List.setIfInBounds_toArray, List.set_cons_succ, List.set_cons_zero, List.getD_cons_succ, List.getD_cons_zero, Nat.zero_add, Nat.reduceAdd]
      go_wp2_with fail
      go_ret
      exact ⟨rfl, B.trans (hw.mono B.size)⟩

set_option maxRecDepth 100000 in
set_option maxHeartbeats 4000000 in
theorem printT_any (v : Value) (xs : List Sp) (w : World) (h : Spots w.heap.size w xs [v]) (hn : xs.length ≤ 1000000) :
    Calls Try.prog 21 #[v] w fun e W' => e = .returned (.string (tx (layTr xs))) ∧ Below w.heap.size w W' := by
  obtain ⟨A, cap, rfl, hlc, hcm, hp⟩ := spots_at h
  have HP := Lib.hid hp
  have hcm2 : cap ≤ 9223372036854775807 := Nat.le_trans hcm (by decide)
  clear hp h hcm
  go_enter Try.func21, Try.ntmps21
  go_wp2_with fail
  obtain ⟨W0, hW0, hb0, B0⟩ : ∃ W0, w.alloc (.cells #[.pointer none, .slice none 0 0] 59) = W0 ∧ Bld w.heap.size w.heap.size [] W0 ∧ Below w.heap.size w W0 := ⟨_, rfl, Lib.fresh_isBuilder _ _ w, below_new _ _⟩
  rw [hW0]
  clear hW0
  refine (layNum_any (xs.length : Int) W0).mono ?_
  rintro e W1 ⟨rfl, B1⟩
  have hb1 := hb0.next B1
  have B01 := B0.trans (B1.mono B0.size)
  clear hb0 B0 B1
  go_wp2_with fail
  refine (writeString_any w.heap.size w.heap.size [] (layN (xs.length : Int)) W1 hb1 (by simp [layN_length]) hb1.le).mono ?_
  rintro e W2 ⟨⟨v2, rfl⟩, hb2, B2⟩
  have B02 := B01.trans B2
  clear hb1 B01 B2
  go_wp2_with fail
  go_loopw [12] (fun i wr => ∃ (k : Nat) (wq : World), wq = wr ∧ k ≤ xs.length ∧ i = .int .i64 k ∧ Bld w.heap.size w.heap.size (layN (xs.length : Int) ++ laySs (xs.take k)) wr ∧ Below w.heap.size w wr) (fun i _ => xs.length - (intOf i).toNat)
  case atStart => exact ⟨0, _, rfl, Nat.zero_le _, rfl, by simpa [laySs] using hb2, B02⟩
  case round =>
    obtain ⟨k, wr, rfl, hk, rfl, hb, B⟩ := hrel
    by_cases hlt : k < xs.length
    · have hd : decide (k < xs.length) = true := by simpa using hlt
      have hi : (k : Int) < (xs.length : Int) := by omega
      have hge : (0 : Int) ≤ (k : Int) := by omega
      obtain ⟨g, off, rfl, hbn, hc0, hc1, hc2⟩ := HP.out k hlt
      have k0 := (B.cell (p := ⟨g, off + k * 3, none⟩) hbn).trans hc0
      have k1 := (B.cell (p := ⟨g, off + k * 3 + 1, none⟩) hbn).trans hc1
      have k2 := (B.cell (p := ⟨g, off + k * 3 + 2, none⟩) hbn).trans hc2
      clear hc0 hc1 hc2
      have HT := Lib.hid (lay_take_succ (xs.length : Int) xs k hlt)
      have HL := Lib.hid (lay_take_le (xs.length : Int) xs k (by omega))
      obtain ⟨⟨f, x, y⟩, hx⟩ : ∃ b, xs[k] = b := ⟨_, rfl⟩
      have HX := Lib.hid hx
      rw [hx] at k0 k1 k2
      clear hx
      simp only at k0 k1 k2
      go_wp2_with fail
      obtain ⟨W3, hW3, B3⟩ : ∃ W3, wr.alloc (.cells #[.bool f, .int .i64 x, .int .i64 y] 46) = W3 ∧ Below wr.heap.size wr W3 := ⟨_, rfl, below_new _ _⟩
      rw [hW3]
      clear hW3
      refine (printSpot_any f x y W3).mono ?_
      rintro e W4 ⟨rfl, B4⟩
      have B34 := B3.trans (B4.mono B3.size)
      have hb4 := hb.next B34
      have B04 := B.trans (B34.mono B.size)
      clear hb B3 B4 k0 k1 k2 B B34
      go_wp2_with fail
      refine (writeString_any w.heap.size w.heap.size _ (layS (f, x, y)) W4 hb4 (by have := HL.out; have := layS_le (f, x, y); omega) hb4.le).mono ?_
      rintro e W5 ⟨⟨v5, rfl⟩, hb5, B5⟩
      have B05 := B04.trans B5
      clear hb4 B04 B5
      go_wp2
      go_roundw
      case rel => exact ⟨k + 1, _, rfl, by omega, by go_num, by rw [HT.out, HX.out]; exact hb5, B05⟩
      case measure => simp [intOf]; omega
    · have hd : decide (k < xs.length) = false := by simpa using hlt
      have hkk : xs.take k = xs := List.take_of_length_le (by omega)
      rw [hkk] at hb
      clear hkk
      go_wp2_with fail
      refine (bldString_any w.heap.size w.heap.size _ wr hb hb.le).mono ?_
      rintro e W3 ⟨rfl, B3⟩
      go_wp2
      go_ret
      exact ⟨rfl, B.trans B3⟩

set_option maxRecDepth 100000 in
set_option maxHeartbeats 4000000 in
theorem refPrintT_any (v : Value) (xs : List Sp) (w : World) (h : Spots w.heap.size w xs [v]) (hn : xs.length ≤ 1000000) :
    Calls Try.prog 22 #[v] w fun e W' => e = .returned (.string (tx (layTr xs))) ∧ Below w.heap.size w W' := by
  obtain ⟨A, cap, rfl, hlc, hcm, hp⟩ := spots_at h
  have HP := Lib.hid hp
  have hcm2 : cap ≤ 9223372036854775807 := Nat.le_trans hcm (by decide)
  clear hp h hcm
  go_enter Try.func22, Try.ntmps22
  go_wp2_with fail
  refine (refLayNum_any (xs.length : Int) w).mono ?_
  rintro e W1 ⟨rfl, B1⟩
  go_wp2_with fail
  go_loopw [3, 4] (fun s i wr => ∃ (k : Nat) (wq : World) (cur : List UInt8), wq = wr ∧ Hid (cur = layN (xs.length : Int) ++ laySs (xs.take k)) ∧ k ≤ xs.length ∧ s = .string (tx cur) ∧ i = .int .i64 k ∧ Below w.heap.size w wr) (fun _ i _ => xs.length - (intOf i).toNat)
  case atStart => exact ⟨0, _, layN (xs.length : Int), rfl, Lib.hid (by simp [laySs]), Nat.zero_le _, rfl, rfl, B1⟩
  case round =>
    obtain ⟨k, wr, cur, rfl, HC, hk, rfl, rfl, B⟩ := hrel
    by_cases hlt : k < xs.length
    · have hd : decide (k < xs.length) = true := by simpa using hlt
      have hi : (k : Int) < (xs.length : Int) := by omega
      have hge : (0 : Int) ≤ (k : Int) := by omega
      obtain ⟨g, off, rfl, hbn, hc0, hc1, hc2⟩ := HP.out k hlt
      have k0 := (B.cell (p := ⟨g, off + k * 3, none⟩) hbn).trans hc0
      have k1 := (B.cell (p := ⟨g, off + k * 3 + 1, none⟩) hbn).trans hc1
      have k2 := (B.cell (p := ⟨g, off + k * 3 + 2, none⟩) hbn).trans hc2
      have hbn2 : g < wr.heap.size := Nat.lt_of_lt_of_le hbn B.size
      clear hc0 hc1 hc2
      have HT : Hid (layN (xs.length : Int) ++ laySs (xs.take (k + 1)) = cur ++ layS xs[k]) := Lib.hid (by rw [lay_take_succ (xs.length : Int) xs k hlt, HC.out])
      have hcl : cur.length ≤ 12000004 := by rw [HC.out]; exact lay_take_le _ xs k (by omega)
      obtain ⟨⟨f, a, b⟩, hx⟩ : ∃ b, xs[k] = b := ⟨_, rfl⟩
      have HX := Lib.hid hx
      rw [hx] at k0 k1 k2
      clear hx
      simp only at k0 k1 k2
      cases f
      · have r0 := tx_room (a := cur) (b := layN 0) (by simp [layN_length]; omega)
        go_wp2_with fail
        refine (refLayNum_any 0 wr).mono ?_
        rintro e W2 ⟨rfl, B2⟩
        go_wp2
        go_roundw
        case rel => exact ⟨k + 1, _, cur ++ layN 0, rfl, Lib.hid (by rw [HT.out, HX.out]; rfl), by omega, by rw [tx_app], by go_num, B.trans (B2.mono B.size)⟩
        case measure => simp [intOf]; omega
      · have r0 := tx_room (a := cur) (b := layN 1) (by simp [layN_length]; omega)
        have r1 := tx_room (a := cur ++ layN 1) (b := layM a b) (by simp [layN_length, layM_length]; omega)
        go_wp2_with fail
        have r2 : ¬ (9223372036854775807 < (tx cur ++ tx (layN 1)).size + (tx (layM a b)).size) := by rw [tx_app]; exact r1
        have r3 : ¬ (9223372036854775807 < (tx cur).size + (tx (layN 1)).size + (tx (layM a b)).size) := by simp only [tx_size, layN_length, layM_length]; omega
        have BD : Below wr.heap.size wr wr.drew := ⟨rfl, rfl, rfl, Nat.le_refl _, fun _ _ => rfl⟩
        go_region_held3 (fun w' => w'.cell? ⟨g, off + k * 3 + 1, none⟩ = some (.int .i64 a) ∧ w'.cell? ⟨g, off + k * 3 + 2, none⟩ = some (.int .i64 b)) (first | exact ⟨k1, k2⟩ | exact ⟨y1, y2⟩ | exact ⟨z1, z2⟩)
          (first
            | (go_at_call 39; (with_reducible refine (refPrint_any a b _).mono ?_); rintro e W3 ⟨rfl, B3⟩; have B13 := B12.trans (B3.mono B12.size); have z1 := (B13.cell (p := ⟨g, off + k * 3 + 1, none⟩) hbn2).trans k1; have z2 := (B13.cell (p := ⟨g, off + k * 3 + 2, none⟩) hbn2).trans k2)
            | (go_at_call 38; (with_reducible refine (refLayNum_any 1 _).mono ?_); rintro e W2 ⟨rfl, B2⟩; have B12 := BD.trans B2; have y1 := (B12.cell (p := ⟨g, off + k * 3 + 1, none⟩) hbn2).trans k1; have y2 := (B12.cell (p := ⟨g, off + k * 3 + 2, none⟩) hbn2).trans k2))
        all_goals
          go_wp2
          go_roundw
          case rel => exact ⟨k + 1, _, cur ++ layN 1 ++ layM a b, rfl, Lib.hid (by rw [HT.out, HX.out, List.append_assoc]; rfl), by omega, by rw [← tx_app, ← tx_app], by go_num, B.trans (B13.mono B.size)⟩
          case measure => simp [intOf]; omega
    · have hd : decide (k < xs.length) = false := by simpa using hlt
      have HE : Hid (cur = layTr xs) := Lib.hid (by rw [HC.out, List.take_of_length_le (by omega)]; rfl)
      go_wp2
      go_ret
      exact ⟨congrArg (fun c => Ending.returned (.string (tx c))) HE.out, B⟩

end Go.Proofs.Ytgnebmandifhiaa
