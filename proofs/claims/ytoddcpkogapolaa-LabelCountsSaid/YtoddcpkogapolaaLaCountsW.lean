/- lodgelaw10.LabelCounts answers true, whatever slice of spots comes in, and leaves memory below as it was. No condition. -/
import Derived.Test.YtoddcpkogapolaaAwake10
import Derived.Test.YtoddcpkogapolaaRefJ
import Derived.Test.YtoddcpkogapolaaLens
import Derived.Test.YtoddcpkogapolaaLabQ
import Derived.Test.YtoddcpkogapolaaWin
namespace Go.Proofs.Ytoddcpkogapolaa
open Go Go.RowKit
set_option linter.unusedVariables false

/-- Block g is a row of n bools. -/
def RowS (w : World) (g : Nat) (l : List Bool) : Prop := w.rowIs g 4 l.length (fun j => .bool (l.getD j false))
theorem infoBo : (Try.prog.info? 4).map (fun i => (i.zero, i.size, i.bytes)) = some (some (.bool false), 1, 1) := by kernel_rfl
theorem rowS_made (w : World) (n : Nat) : RowS (w.alloc (.cells (madeCells #[.bool false] n) 4)) w.heap.size (List.replicate n false) := by
  unfold RowS
  rw [List.length_replicate]
  refine (World.rowIs_made w _ n _).congr fun j hj => ?_
  simp [List.getD_eq_getElem?_getD, hj]
theorem RowS.lay {w : World} {g : Nat} {l : List Bool} (h : RowS w g l) (o : Nat) (ho : o < l.length) : RowS (w.setCell ⟨g, o, none⟩ (.bool true)) g (l.set o true) := by
  unfold RowS
  rw [List.length_set]
  refine (World.rowIs.set h o _).congr fun j hj => ?_
  by_cases e : j = o
  · subst e; simp [ho]
  · simp [e, List.getElem?_set_ne (Ne.symm e)]
theorem RowS.below {w w' : World} {g B : Nat} {l : List Bool} (h : RowS w g l) (hb : Below B w w') (hg : g < B) : RowS w' g l := World.rowIs.of_block h (hb.block g hg)
theorem RowS.block {w w' : World} {g : Nat} {l : List Bool} (h : RowS w g l) (hb : w'.heap[g]? = w.heap[g]?) : RowS w' g l := World.rowIs.of_block h hb
/-- A label as its two numbers. -/
def labI (x : Nat × Nat) : Int × Int := ((x.1 : Int), (x.2 : Int))
def labsC (q : List (Nat × Nat)) : List Value := (q.map labI).flatMap mC
theorem labsC_length (q : List (Nat × Nat)) : (labsC q).length = q.length * 2 := by
  rw [labsC, flat_len (enc := mC) (s := 2) (fun _ => rfl), List.length_map]
theorem labsC_cons (x : Nat × Nat) (q : List (Nat × Nat)) : labsC (x :: q) = .int .i64 (x.1 : Int) :: .int .i64 (x.2 : Int) :: labsC q := rfl
theorem labsC_two (q : List (Nat × Nat)) (a b : Nat × Nat) : labsC q ++ [labI a, labI b].flatMap mC = labsC (q ++ [a, b]) := by
  simp [labsC]
theorem lenOf_win {w : World} {base s : Nat} {v : Value} {n : Nat} {ys : List Value} (h : Win w base s v n ys) : lenOf v = n := by
  obtain ⟨g, off, cap, rfl, _⟩ := h
  rfl
/-- The queue's first. -/
theorem win_first {w : World} {base : Nat} {u : Value} {x : Nat × Nat} {q : List (Nat × Nat)} (h : Win w base 2 u (x :: q).length (labsC (x :: q))) :
    ∃ g off c A', u = .slice (some ⟨g, off, none⟩) (q.length + 1) c ∧ q.length + 1 ≤ c ∧ c ≤ 9223372036854775807 ∧ w.cell? ⟨g, off, none⟩ = some (.int .i64 (x.1 : Int)) ∧ w.cell? ⟨g, off + 1, none⟩ = some (.int .i64 (x.2 : Int)) ∧ g < w.heap.size ∧
      (∀ wx, (Instr.slice 38 (.slice (some ⟨g, off, none⟩) (q.length + 1) c) (some (.int .i64 1)) none none).run Try.prog wx = .ok (.slice A' q.length (c - 1)) wx) ∧ Win w base 2 (.slice A' q.length (c - 1)) q.length (labsC q) := by
  obtain ⟨g, off, c, rfl, h1, h2, h3, h4, h5, h6, h7⟩ := id h
  obtain ⟨_, hc1, hcut⟩ := win_cut h
  obtain ⟨A', e⟩ := sliced_is (some ⟨g, off, none⟩) 1 (q.length + 1) c 2
  refine ⟨g, off, c, A', rfl, h3, Nat.le_trans h4 (by decide), ?_, ?_, h2, fun wx => ?_, ?_⟩
  · exact h6 0 (by simp)
  · exact h6 1 (by simp; omega)
  · rw [run_slice_l _ _ _ _ _ Try.underlying38 _ _ (by omega) (by omega)]
    have es : (sizeOf (Try.prog.elem 38)).run Try.prog wx = .ok 2 wx := Try.sizeOf24 wx
    rw [es]
    simp only [Result.andThen]
    rw [show (1 : Int).toNat = 1 from rfl, e]
    rfl
  · rw [e] at hcut
    exact hcut
/-- Two labels, just written out. -/
theorem two_mem (w : World) (a b c d : Int) (t : TypeId) (g : Nat) (hg : w.heap.size = g) : Mems (g + 1) (w.alloc (.cells #[.int .i64 a, .int .i64 b, .int .i64 c, .int .i64 d] t)) [(a, b), (c, d)] [.slice (some ⟨g, 0, none⟩) 2 2] := by
  subst hg
  refine ⟨_, 2, rfl, Nat.le_refl _, by decide, (fun h => by cases h), fun _ => ⟨w.heap.size, 0, rfl, by omega, fun i hi => ?_⟩⟩
  have : i = 0 ∨ i = 1 := by simp at hi; omega
  rcases this with rfl | rfl
  · refine ⟨[.int .i64 a, .int .i64 b], rfl, fun j hj => ?_, rfl⟩
    have : j = 0 ∨ j = 1 := by omega
    rcases this with rfl | rfl <;> simp
  · refine ⟨[.int .i64 c, .int .i64 d], rfl, fun j hj => ?_, rfl⟩
    have : j = 0 ∨ j = 1 := by omega
    rcases this with rfl | rfl <;> simp
theorem append_queue {ops : Array Oper} {rest : List Oper} {o : Oper} {a : Act} {Q : Exit → Act → World → Prop} (w : World) (hw : Region.wanted o (yielded ops a.tmps) = true) (so x : Operand)
    (ho : o.op = .call { callee := .builtin .append, args := #[so, x], argTypes := #[38, 38] })
    (base : Nat) (v : Value) (n : Nat) (ys : List Value) (hv : a.eval so = v) (hown : Win w base 2 v n ys)
    (n₀ : Nat) (V : Value) (xs : List (Int × Int)) (hx : a.eval x = V) (hL : Mems n₀ w xs [V]) (hb : n + xs.length ≤ 4000000) (hbase : base ≤ w.heap.size)
    (h : ∀ v' w', Win w' base 2 v' (n + xs.length) (ys ++ xs.flatMap mC) → w.grownBy w' v.ownBlock → wpList Try.prog ops Q rest (a.put o.dst v') w') : wpList Try.prog ops Q (o :: rest) a w :=
  append_win (enc := mC) (s := 2) (R := IsM) (fun _ _ _ _ h => h) (by decide) (fun _ => rfl) oneM Try.underlying38 infoL rfl w hw so x ho base v n ys hv hown n₀ V xs hx hL (Nat.le_trans hb (by decide)) (by omega) hbase h
theorem win_start (w : World) (t : TypeId) (base : Nat) (hb : base ≤ w.heap.size) : Win (w.alloc (.cells #[.int .i64 0, .int .i64 0] t)) base 2 (.slice (some ⟨w.heap.size, 0, none⟩) 1 1) [((0 : Nat), (0 : Nat))].length (labsC [(0, 0)]) :=
  win_of_row (heap_alloc_new w (.cells #[.int .i64 0, .int .i64 0] t)) hb (Nat.le_refl _) (by decide) rfl
set_option maxRecDepth 100000 in
set_option maxHeartbeats 8000000 in
theorem labelCounts_walk (A : Option Addr) (la ca : Nat) (w : World) (h : ∃ xs, Spots w.heap.size w xs [.slice A la ca]) :
    Calls Try.prog 7 #[.slice A la ca] w fun e w' => e = .returned (.bool true) ∧ Below w.heap.size w w' := by
  obtain ⟨xs, hx⟩ := h
  have HX := Lib.hid hx
  have HX0 := Lib.hid hx
  obtain ⟨_, _, e, hlc, hcm, _⟩ := spots_at hx
  simp only [Value.slice.injEq] at e
  obtain ⟨rfl, hla, rfl⟩ := e
  have hc1 : ca ≤ 9223372036854775807 := Nat.le_trans hcm (by decide)
  subst hla
  clear hx hcm
  obtain ⟨b, hb1, hb2⟩ := small10_any xs
  have HSM := Lib.hid hb2
  clear hb2
  go_enter Try.func7, Try.ntmps7
  go_wp2_with fail
  refine (HSM.out _ w HX.out).mono ?_
  rintro e W1 ⟨rfl, B⟩
  replace HX := Lib.hid (keeps_spots _ _ _ _ _ _ HX.out B B.size)
  cases b with
  | false =>
    clear hb1
    go_wp2_with fail
    refine (awake10_any W1).mono ?_
    rintro e W9 ⟨rfl, B9⟩
    go_wp2
    go_ret
    exact ⟨rfl, B.trans (B9.mono B.size)⟩
  | true =>
    obtain ⟨ot, rfl, hok, hht⟩ := hb1 rfl
    have hn : (spo ot).length ≤ 128 := (okT_parts hok).1
    clear hb1
    have KH : Hid (∀ v w, Spots w.heap.size w (spo ot) [v] → Calls Try.prog 30 #[v] w fun e W' => e = .returned (.int .i64 (htO ot)) ∧ Below w.heap.size w W') := Lib.hid fun v w h => by
      cases ot with
      | none => exact refHeight_nil v w h
      | some t => exact refHeight_flat t v w h (Nat.le_trans hn (by decide))
    by_cases h60 : (60 : Int) < ((spo ot).length : Int)
    · have hd : decide ((60 : Int) < ((spo ot).length : Int)) = true := decide_eq_true h60
      go_wp2_with fail
      refine (awake10_any W1).mono ?_
      rintro e W9 ⟨rfl, B9⟩
      go_wp2
      go_ret
      exact ⟨rfl, B.trans (B9.mono B.size)⟩
    have hd : decide ((60 : Int) < ((spo ot).length : Int)) = false := decide_eq_false h60
    have hn60 : (spo ot).length ≤ 60 := by omega
    go_wp2_with fail
    refine (KH.out _ W1 HX.out).mono ?_
    rintro e W2 ⟨rfl, hb⟩
    replace HX := Lib.hid (keeps_spots _ _ _ _ _ _ HX.out hb hb.size)
    replace B := B.trans (hb.mono B.size)
    clear hb KH HSM
    by_cases h40 : (40 : Int) < htO ot
    · have hd4 : decide ((40 : Int) < htO ot) = true := decide_eq_true h40
      go_wp2_with fail
      refine (awake10_any W2).mono ?_
      rintro e W9 ⟨rfl, B9⟩
      go_wp2
      go_ret
      exact ⟨rfl, B.trans (B9.mono B.size)⟩
    have hd4 : decide ((40 : Int) < htO ot) = false := decide_eq_false h40
    have hh40 : htO ot ≤ 40 := by omega
    obtain ⟨i0, hi, hz0, hz1, hz2⟩ := info_parts infoBo
    go_wp2_with (refine wpList_make_row _ rfl _ _ 47 rfl 4 i0 (.bool false) Try.underlying47 hi hz0 hz1 rfl .i64 .i64 (spo ot).length rfl rfl (by rw [hz2]; omega) (by omega) ?_)
    obtain ⟨W4, hW4, hR, hz4, hb⟩ : ∃ W4, W2.alloc (.cells (madeCells #[.bool false] (spo ot).length) 4) = W4 ∧ RowS W4 W2.heap.size (List.replicate (spo ot).length false) ∧ W4.heap.size = W2.heap.size + 1 ∧ Below W2.heap.size W2 W4 := ⟨_, rfl, rowS_made W2 _, by simp, below_new _ _⟩
    rw [hW4]
    clear hW4
    obtain ⟨S, hS⟩ : ∃ S, W2.heap.size = S := ⟨_, rfl⟩
    rw [hS] at hR hz4
    rw [hS]
    have hSw : w.heap.size ≤ S := by rw [← hS]; exact B.size
    have hS4 : S < W4.heap.size := World.rowIs.lt hR
    replace B := B.trans (hb.mono B.size)
    replace HX := Lib.hid (keeps_spots _ _ _ _ _ _ HX.out hb hb.size)
    clear hb hS
    have HWS := Lib.hid (win_start W4 24 (S + 1) hS4)
    rw [hz4] at HWS
    have HR5 := Lib.hid (hR.below (below_new W4 (.cells #[.int .i64 0, .int .i64 0] 24)) hS4)
    have HB5 := Lib.hid (B.trans ((below_new W4 (.cells #[.int .i64 0, .int .i64 0] 24)).mono B.size))
    have HZ5 : Hid (S + 1 ≤ (W4.alloc (.cells #[.int .i64 0, .int .i64 0] 24)).heap.size) := Lib.hid (by simp; omega)
    have HW0 := Lib.hid (walked_start ot)
    clear hR B hS4 hz4 hd hd4 h60 h40
    go_wp2_with fail
    go_loopw [4, 5] (fun nn u wr => ∃ (k : Nat) (q : List (Nat × Nat)) (l : List Bool) (wq : World) (uq : Value), wq = wr ∧ uq = u ∧ nn = .int .i64 (k : Int) ∧ q.length ≤ k + 1 ∧ Walked ot q l k ∧ RowS wr S l ∧ Win wr (S + 1) 2 u q.length (labsC q) ∧ S + 1 ≤ wr.heap.size ∧ Below w.heap.size w wr) (fun nn u _ => 3 * (100 - (intOf nn).toNat) + lenOf u)
    case atStart => exact ⟨0, _, _, _, _, rfl, rfl, rfl, by simp, HW0.out, HR5.out, HWS.out, HZ5.out, HB5.out⟩
    case round =>
      clear HW0 HR5 HWS HZ5 HB5
      obtain ⟨k, q, l, wr, u, rfl, rfl, rfl, hqk, hwk, hrow, hwin, hsz, B⟩ := hrel
      have HXr := Lib.hid (keeps_spots _ _ _ _ _ _ HX0.out B B.size)
      have hlen := hwk.len
      have hkl := walked_le hwk
      cases q with
      | nil =>
        have hke : k = (spo ot).length := walked_end hwk
        obtain ⟨g, off, cap, hu, _⟩ := hwin
        replace hu : u = .slice (some ⟨g, off, none⟩) 0 cap := hu
        subst hu
        clear hwk hlen hkl
        have hke2 : decide ((k : Int) = ((spo ot).length : Int)) = true := by rw [hke]; exact decide_eq_true rfl
        have hke3 : ((k : Int) == ((spo ot).length : Int)) = true := by rw [hke]; simp
        clear hke
        go_wp2_with fail
        refine (awake10_any _).mono ?_
        rintro e W9 ⟨rfl, B9⟩
        go_wp2
        go_ret
        exact ⟨rfl, B.trans (B9.mono B.size)⟩
      | cons x q =>
        obtain ⟨a, i⟩ := x
        obtain ⟨g, off, c, A', rfl, hc2, hc3, c0, c1, hgl, hsl, hwin2⟩ := win_first hwin
        have HU := Lib.hid (win_own hwin)
        clear hwin
        go_wp2_with fail
        obtain ⟨W6, hW6, b6, hb⟩ : ∃ W, wr.alloc (.cells #[.int .i64 (a : Int), .int .i64 (i : Int)] 24) = W ∧ Box W wr.heap.size [.int .i64 (a : Int), .int .i64 (i : Int)] ∧ Below wr.heap.size wr W := ⟨_, rfl, Box.new wr _ _, below_new _ _⟩
        rw [hW6]
        obtain ⟨g6, hg6⟩ : ∃ g, wr.heap.size = g := ⟨_, rfl⟩
        rw [hg6] at b6
        rw [hg6]
        have hg6s : S + 1 ≤ g6 := by rw [← hg6]; exact hsz
        have hgg : g < g6 := by rw [← hg6]; exact hgl
        replace HXr := Lib.hid (keeps_spots _ _ _ _ _ _ HXr.out hb hb.size)
        replace hwin2 := win_below hwin2 hb
        replace hrow := hrow.below hb (by omega)
        replace hsz := Nat.le_trans hsz hb.size
        replace B := B.trans (hb.mono B.size)
        clear hb hW6 hg6 c0 c1 hgl hsl
        refine (lAt_any _ ot _ _ W6 HXr.out hok hht).mono ?_
        rintro e W7 ⟨rfl, hb⟩
        have HB7 := hb
        replace HXr := Lib.hid (keeps_spots _ _ _ _ _ _ HXr.out hb hb.size)
        replace hwin2 := win_below hwin2 hb
        replace hrow := hrow.below hb (by omega)
        replace hsz := Nat.le_trans hsz hb.size
        replace b6 := b6.next hb
        replace B := B.trans (hb.mono B.size)
        clear hb HB7
        obtain ⟨hm1, hm2⟩ := hwk.may (a, i) (List.mem_cons_self ..)
        rw [atO_nat ot (show a ≤ 60 by simp at hm1; omega) hm2]
        have HLQ : Hid (∀ A n c, lenOf (.slice A n c) = n) := Lib.hid fun _ _ _ => rfl
        cases hs : subO ot (path a i) with
        | none =>
          have HWK := Lib.hid (walked_skip hwk hs)
          have HW2 := Lib.hid hwin2
          have HRW := Lib.hid hrow
          clear hwk hs hm1 hm2 hwin2 hrow b6 hlen
          go_wp2
          go_roundw
          case rel => exact ⟨k, q, l, _, _, rfl, rfl, rfl, by simp only [List.length_cons] at hqk; omega, HWK.out, HRW.out, HW2.out, hsz, B⟩
          case measure => simp only [lenOf]; omega
        | some y =>
          obtain ⟨o, t⟩ := y
          obtain ⟨hk40, hkn, ho, hso, hwk2⟩ := walked_see hwk hs hh40
          have HWK := Lib.hid hwk2
          have hm3 : i < 2 ^ a := hm2
          clear hwk hs hm1 hm2 hwk2
          have hol : (o : Int) < ((spo ot).length : Int) := by omega
          have hd1 : decide ((o : Int) < 0) = false := decide_eq_false (by omega)
          have hd2 : decide (((spo ot).length : Int) ≤ (o : Int)) = false := decide_eq_false (by omega)
          have hs0 : W7.cell? ⟨S, o, none⟩ = some (.bool false) := by
            have := World.rowIs.cell hrow ho
            rw [this]
            simp [List.getD_eq_getElem?_getD, List.getElem?_eq_getElem ho, hso]
          have hf0 := World.rowIs.frozen hrow o
          have hi41 : (i : Int) < 1099511627776 := by
            have h1 : 2 ^ a ≤ 2 ^ 40 := Nat.pow_le_pow_right (by omega) hk40
            have h2 : (2 : Nat) ^ 40 = 1099511627776 := by decide
            omega
          have hi0 : (0 : Int) ≤ (i : Int) := by omega
          have hne : g6 ≠ S := by omega
          have q0 : (W7.setCell ⟨S, o, none⟩ (.bool true)).cell? ⟨g6, 0, none⟩ = some (.int .i64 (a : Int)) := (World.cell?_of_block (a := ⟨g6, 0, none⟩) (Below.heap_setCell _ _ _ _ hne)).trans (b6.c 0 _ rfl)
          have q1 : (W7.setCell ⟨S, o, none⟩ (.bool true)).cell? ⟨g6, 1, none⟩ = some (.int .i64 (i : Int)) := (World.cell?_of_block (a := ⟨g6, 1, none⟩) (Below.heap_setCell _ _ _ _ hne)).trans (b6.c 1 _ rfl)
          have hrow2 := hrow.lay o ho
          have hwin3 : Win (W7.setCell ⟨S, o, none⟩ (.bool true)) (S + 1) 2 (.slice A' q.length (c - 1)) q.length (labsC q) := win_block hwin2 (by simp [World.setCell]) (fun g hg => Below.heap_setCell _ _ _ _ (by have := (win_own hwin2 g hg).1; show g ≠ S; omega))
          have hsz3 : S + 1 ≤ (W7.setCell ⟨S, o, none⟩ (.bool true)).heap.size := by simpa [World.setCell] using hsz
          have B3 := B.setCell (p := ⟨S, o, none⟩) hSw (.bool true)
          have hql : q.length ≤ 60 := by simp only [List.length_cons] at hqk; omega
          clear hm3 hrow hwin2 hsz B b6 hso hlen
          obtain ⟨iv, hix⟩ : ∃ v : Int, (i : Int) = v := ⟨_, rfl⟩
          rw [hix] at q1 hi41 hi0
          have HIX := Lib.hid hix
          have H2 := Lib.hid hwin3
          have H3 := Lib.hid hrow2
          have H4 := Lib.hid B3
          have H5 := Lib.hid hsz3
          have H6 := Lib.hid (show o < l.length from ho)
          clear hix hwin3 hrow2 B3 hsz3 ho
          go_wp2_with (at_builtin; refine append_queue _ rfl _ _ rfl (S + 1) _ _ _ rfl (win_below H2.out (below_new _ _)) _ _ _ rfl (two_mem _ _ _ _ _ _ _ (by simp)) ?c1 ?c2 ?_)
          case c1 => (try simp); omega
          case c2 => have := H5.out; (try simp at this ⊢); omega
          intro v' w' hown' hgr
          have h5 := H5.out
          have hk0 := hgr.block S (by simp at h5 ⊢; omega) (fun e => by have := (win_own H2.out S e.symm).1; omega)
          have HK := Lib.hid (H3.out.block (hk0.trans ((below_new (W7.setCell ⟨S, o, none⟩ (.bool true)) _).block S (by omega))))
          clear h5 hk0
          have HW := Lib.hid hown'
          have HB : Hid (Below w.heap.size w w') := Lib.hid (grown_below (H4.out.alloc H4.out.size _) hgr (fun g hg => by have := (win_own H2.out g hg).1; omega) (by have := H4.out.size; simp at this ⊢; omega))
          have HZ : Hid (S + 1 ≤ w'.heap.size) := Lib.hid (by have := H5.out; have := hgr.size; simp at *; omega)
          obtain ⟨A9, c9, hv9⟩ : ∃ A9 c9, v' = .slice A9 (q.length + 2) c9 := by
            obtain ⟨g9, o9, c9, e9, _⟩ := hown'
            exact ⟨_, _, e9⟩
          subst hv9
          clear hown' hgr q0 q1 hs0 hf0
          go_wp2
          go_roundw
          case rel =>
            refine ⟨k + 1, _, _, _, _, rfl, rfl, by go_num, ?_, HWK.out, HK.out, ?_, HZ.out, HB.out⟩
            · simp only [List.length_cons] at hqk
              simp
              omega
            · have := HW.out
              rw [← HIX.out] at this
              have e2 := labsC_two q (a + 1, 2 * i) (a + 1, 2 * i + 1)
              rw [List.length_append]
              rw [← e2]
              simpa [labI] using this
          case measure => simp [intOf, lenOf]; omega

end Go.Proofs.Ytoddcpkogapolaa
