/- lodgelaw10.LabelHalves answers true, whatever slice of spots and label come in, and leaves memory below as it was. No condition. -/
import Derived.Test.YtoddcpkogapolaaAwake10
import Derived.Test.YtoddcpkogapolaaPhaseR
import Derived.Test.YtoddcpkogapolaaRefJ
import Derived.Test.YtoddcpkogapolaaLens
namespace Go.Proofs.Ytoddcpkogapolaa
open Go Go.RowKit
set_option linter.unusedVariables false

theorem pow_50 {n i : Nat} (h : n ≤ 50) (hi : i < 2 ^ n) : i < 1125899906842624 := Nat.lt_of_lt_of_le hi (Nat.le_trans (Nat.pow_le_pow_right (by omega) h) (by decide))
theorem two_lt {n i : Nat} (hi : i < 2 ^ n) : 2 * i < 2 ^ (n + 1) ∧ 2 * i + 1 < 2 ^ (n + 1) := by
  rw [Nat.pow_succ]
  omega
/-- A place that is no inner one has no halves; of an inner one they are its. -/
theorem part_halves {ot : Option Tr} (hok : okT (spo ot) = true) {n i : Nat} (hn : n ≤ 50) (hi : i < 2 ^ n) :
    ((partO ot (n : Int) (i : Int)).length < 3 ∧ partO ot ((n : Int) + 1) (2 * (i : Int)) = [] ∧ partO ot ((n : Int) + 1) (2 * (i : Int) + 1) = []) ∨
    ∃ l r, partO ot (n : Int) (i : Int) = (false, 0, 0) :: (flat l ++ flat r) ∧ partO ot ((n : Int) + 1) (2 * (i : Int)) = flat l ∧ partO ot ((n : Int) + 1) (2 * (i : Int) + 1) = flat r := by
  obtain ⟨h2, h3⟩ := two_lt hi
  have p1 := partO_nat ot (by omega : n ≤ 60) hi
  have p2 := partO_nat ot (by omega : n + 1 ≤ 60) h2
  have p3 := partO_nat ot (by omega : n + 1 ≤ 60) h3
  have c1 : ((n + 1 : Nat) : Int) = (n : Int) + 1 := by omega
  have c2 : ((2 * i : Nat) : Int) = 2 * (i : Int) := by omega
  have c3 : ((2 * i + 1 : Nat) : Int) = 2 * (i : Int) + 1 := by omega
  rw [c1, c2] at p2
  rw [c1, c3] at p3
  have q2 : path (n + 1) (2 * i) = path n i ++ [false] := by simpa using path_snoc n i false
  have q3 : path (n + 1) (2 * i + 1) = path n i ++ [true] := by simpa using path_snoc n i true
  rw [q2] at p2
  rw [q3] at p3
  rw [p1, p2, p3]
  cases ot with
  | none => left; simp [subO]
  | some t =>
    simp only [subO]
    rw [sub_snoc, sub_snoc]
    cases hs : sub t (path n i) with
    | none => left; simp
    | some x =>
      obtain ⟨o, u⟩ := x
      cases u with
      | leaf a b => left; simp [flat]
      | inner a b l r =>
        right
        obtain ⟨ha, _⟩ := sub_part hs
        have hm : (false, a, b) ∈ flat t := by
          have h1 : (false, a, b) ∈ flat (.inner a b l r) := by simp [flat]
          rw [← ha] at h1
          exact List.mem_of_mem_drop (List.mem_of_mem_take h1)
        have hw := (List.all_eq_true.1 (okT_parts hok).2.1) _ hm
        have : a = 0 ∧ b = 0 := by simpa [noWho] using hw
        obtain ⟨rfl, rfl⟩ := this
        exact ⟨l, r, by simp [flat], by simp, by simp⟩
theorem half_labels {n i : Nat} (hn : n ≤ 50) (hi : i < 2 ^ n) :
    besL ((n : Int) + 1) (2 * (i : Int)) = (((n : Int) + 1, 2 * (i : Int) + 1), true) ∧ upL ((n : Int) + 1) (2 * (i : Int)) = (((n : Int), (i : Int)), true) ∧ upL ((n : Int) + 1) (2 * (i : Int) + 1) = (((n : Int), (i : Int)), true) := by
  obtain ⟨h2, h3⟩ := two_lt hi
  have o2 := okL_nat (by omega : n + 1 ≤ 60) h2
  have o3 := okL_nat (by omega : n + 1 ≤ 60) h3
  have c1 : ((n + 1 : Nat) : Int) = (n : Int) + 1 := by omega
  have c2 : ((2 * i : Nat) : Int) = 2 * (i : Int) := by omega
  have c3 : ((2 * i + 1 : Nat) : Int) = 2 * (i : Int) + 1 := by omega
  rw [c1, c2] at o2
  rw [c1, c3] at o3
  have hne : ((n : Int) + 1) ≠ 0 := by omega
  refine ⟨?_, ?_, ?_⟩
  · simp only [besL, o2, Bool.true_and, decide_eq_true hne, if_true]
    rw [if_pos (by omega)]
  · simp only [upL, o2, Bool.true_and, decide_eq_true hne, if_true]
    congr 2 <;> omega
  · simp only [upL, o3, Bool.true_and, decide_eq_true hne, if_true]
    congr 2 <;> omega
set_option maxRecDepth 100000 in
set_option maxHeartbeats 8000000 in
theorem labelHalves_walk (A : Option Addr) (la ca : Nat) (c : Array Value) (w : World) (h : ∃ xs, Spots w.heap.size w xs [.slice A la ca]) (h' : ∃ m, IsM w.heap.size w m c.toList) :
    Calls Try.prog 6 #[.slice A la ca, .agg c] w fun e w' => e = .returned (.bool true) ∧ Below w.heap.size w w' := by
  obtain ⟨xs, hx⟩ := h
  have HX := Lib.hid hx
  obtain ⟨_, _, e, hlc, hcm, _⟩ := spots_at hx
  simp only [Value.slice.injEq] at e
  obtain ⟨rfl, hla, rfl⟩ := e
  have hc1 : ca ≤ 9223372036854775807 := Nat.le_trans hcm (by decide)
  subst hla
  clear hx hcm
  obtain ⟨⟨L, I⟩, hm⟩ := h'
  obtain rfl : c = #[.int .i64 L, .int .i64 I] := by
    have hm : c.toList = [.int .i64 L, .int .i64 I] := hm
    rw [← Array.toArray_toList (xs := c), hm]
  clear hm
  obtain ⟨b, hb1, hb2⟩ := small10_any xs
  have HSM := Lib.hid hb2
  clear hb2
  go_enter Try.func6, Try.ntmps6
  go_wp2_with fail
  obtain ⟨W0, hW0, b0, B⟩ : ∃ W0, w.alloc (.cells #[.int .i64 L, .int .i64 I] 24) = W0 ∧ Box W0 w.heap.size [.int .i64 L, .int .i64 I] ∧ Below w.heap.size w W0 := ⟨_, rfl, Box.new w _ _, below_new _ _⟩
  rw [hW0]
  clear hW0
  replace HX := Lib.hid (keeps_spots _ _ _ _ _ _ HX.out B B.size)
  refine (HSM.out _ W0 HX.out).mono ?_
  rintro e W1 ⟨rfl, hb⟩
  replace b0 := b0.next hb
  replace HX := Lib.hid (keeps_spots _ _ _ _ _ _ HX.out hb hb.size)
  replace B := B.trans (hb.mono B.size)
  clear hb
  have q0 := b0.c 0 _ rfl
  have q1 := b0.c 1 _ rfl
  cases b with
  | false =>
    clear hb1
    go_wp2_with fail
    refine (awake10_any W1).mono ?_
    rintro e W9 ⟨rfl, B9⟩
    go_wp2
    go_ret
    exact ⟨rfl, B.trans (B9.mono B.size)⟩
  | true =>
    obtain ⟨ot, rfl, hok, hht⟩ := hb1 rfl
    have hn : (spo ot).length ≤ 128 := (okT_parts hok).1
    clear hb1
    by_cases h50 : 50 < L
    · have hd : decide (50 < L) = true := decide_eq_true h50
      go_wp2_with fail
      refine (awake10_any W1).mono ?_
      rintro e W9 ⟨rfl, B9⟩
      go_wp2
      go_ret
      exact ⟨rfl, B.trans (B9.mono B.size)⟩
    · have hd : decide (50 < L) = false := decide_eq_false h50
      go_wp2_with fail
      refine (lPart_any _ ot L I W1 HX.out hok hht).mono ?_
      rintro e W3 ⟨v5, rfl, h5, hb⟩
      replace b0 := b0.next hb
      replace HX := Lib.hid (keeps_spots _ _ _ _ _ _ HX.out hb hb.size)
      replace B := B.trans (hb.mono B.size)
      clear hb
      have H5 := Lib.hid h5
      clear h5 q0 q1
      have q0 := fun o p => (b0.next (below_new2 W3 o p)).c 0 _ rfl
      have q1 := fun o p => (b0.next (below_new2 W3 o p)).c 1 _ rfl
      have r0 := fun o => (b0.next (below_new W3 o)).c 0 _ rfl
      have r1 := fun o => (b0.next (below_new W3 o)).c 1 _ rfl
      have s0 := b0.c 0 _ rfl
      have s1 := b0.c 1 _ rfl
      cases ho : okL L I with
      | false =>
        have HK := Lib.hid ho
        have hpe : partO ot L I = [] := by simp [partO, ho]
        rw [hpe] at H5
        obtain ⟨A5, c5, rfl, _, _⟩ := spots_len H5.out 0 rfl
        clear ho hpe H5 h50 hd
        go_wp2_with fail
        refine (lRight_any L I _).mono ?_
        rintro e W4 ⟨rfl, hb⟩
        have B4 : Below w.heap.size w W4 := B.trans (((below_new2 W3 _ _).trans (hb.mono (by simp; omega))).mono B.size)
        have b4 : Box W4 w.heap.size [.int .i64 L, .int .i64 I] := (b0.next (below_new2 W3 _ _)).next hb
        rw [HK.out]
        clear hb b0 B q0 q1 r0 r1 s0 s1
        go_wp2_with fail
        refine (awake10_any W4).mono ?_
        rintro e W5 ⟨rfl, hb⟩
        have b5 := b4.next hb
        have B5 := B4.trans (hb.mono B4.size)
        have q0 := b5.c 0 _ rfl
        have q1 := b5.c 1 _ rfl
        clear hb b4 B4
        go_wp2_with fail
        refine (lRight_any L I W5).mono ?_
        rintro e W6 ⟨rfl, hb⟩
        rw [HK.out]
        go_wp2
        go_ret
        exact ⟨rfl, B5.trans (hb.mono B5.size)⟩
      | true =>
        obtain ⟨n, iv, rfl, rfl, hk60, hi⟩ := (okL_iff L I).1 ho
        have hn50 : n ≤ 50 := by omega
        have hib := pow_50 hn50 hi
        have HK := Lib.hid ho
        have HPH := Lib.hid (part_halves hok hn50 hi)
        have HLB := Lib.hid (half_labels hn50 hi)
        clear ho hk60 hi h50 hd
        go_wp2_with fail
        obtain ⟨W4, hW, b6, b7, hb⟩ := new2 W3 [.int .i64 ((n : Int) + 1), .int .i64 (2 * (iv : Int))] [.int .i64 ((n : Int) + 1), .int .i64 (2 * (iv : Int) + 1)] 24 24
        rw [hW]
        obtain ⟨g6, hg6⟩ : ∃ g, W3.heap.size = g := ⟨_, rfl⟩
        obtain ⟨g7, hg7⟩ : ∃ g, W3.heap.size + 1 = g := ⟨_, rfl⟩
        rw [hg6] at b6
        rw [hg7] at b7
        try rw [hg7]
        try rw [hg6]
        replace b0 := b0.next hb
        replace H5 := Lib.hid (keeps_spots _ _ _ _ _ _ H5.out hb hb.size)
        replace HX := Lib.hid (keeps_spots _ _ _ _ _ _ HX.out hb hb.size)
        replace B := B.trans (hb.mono B.size)
        clear hb
        clear hW hg6 hg7 q0 q1 r0 r1 s0 s1
        refine (lRight_any (n : Int) (iv : Int) W4).mono ?_
        rintro e W5 ⟨rfl, hb⟩
        rw [HK.out]
        replace b0 := b0.next hb
        replace b6 := b6.next hb
        replace b7 := b7.next hb
        replace H5 := Lib.hid (keeps_spots _ _ _ _ _ _ H5.out hb hb.size)
        replace HX := Lib.hid (keeps_spots _ _ _ _ _ _ HX.out hb hb.size)
        replace B := B.trans (hb.mono B.size)
        clear hb
        have q0 := b0.c 0 _ rfl
        have q1 := b0.c 1 _ rfl
        rcases HPH.out with ⟨hlt, e1, e2⟩ | ⟨tl, tr, e0, e1, e2⟩
        · obtain ⟨m, hm⟩ : ∃ m, (partO ot (n : Int) (iv : Int)).length = m := ⟨_, rfl⟩
          obtain ⟨A5, c5, rfl, _, _⟩ := spots_len H5.out m hm
          have hm3 : m < 3 := by omega
          have hd3 : decide (m < 3) = true := decide_eq_true hm3
          have hd4 : decide ((m : Int) < 3) = true := decide_eq_true (by omega)
          have HPA := Lib.hid e1
          have HPB := Lib.hid e2
          clear hlt e1 e2 hm
          go_wp2_with fail
          refine (awake10_any W5).mono ?_
          rintro e W6 ⟨rfl, hb⟩
          replace b0 := b0.next hb
          replace b6 := b6.next hb
          replace b7 := b7.next hb
          replace H5 := Lib.hid (keeps_spots _ _ _ _ _ _ H5.out hb hb.size)
          replace HX := Lib.hid (keeps_spots _ _ _ _ _ _ HX.out hb hb.size)
          replace B := B.trans (hb.mono B.size)
          clear hb
          clear q0 q1
          have q0 := b0.c 0 _ rfl
          have q1 := b0.c 1 _ rfl
          go_wp2_with fail
          refine (lRight_any (n : Int) (iv : Int) W6).mono ?_
          rintro e W7 ⟨rfl, hb⟩
          rw [HK.out]
          replace b0 := b0.next hb
          replace b6 := b6.next hb
          replace b7 := b7.next hb
          replace H5 := Lib.hid (keeps_spots _ _ _ _ _ _ H5.out hb hb.size)
          replace HX := Lib.hid (keeps_spots _ _ _ _ _ _ HX.out hb hb.size)
          replace B := B.trans (hb.mono B.size)
          clear hb
          clear q0 q1
          have q0 := b0.c 0 _ rfl
          have q1 := b0.c 1 _ rfl
          go_wp2_with fail
          refine (lRight_any (n : Int) (iv : Int) W7).mono ?_
          rintro e W8 ⟨rfl, hb⟩
          rw [HK.out]
          replace b0 := b0.next hb
          replace b6 := b6.next hb
          replace b7 := b7.next hb
          replace H5 := Lib.hid (keeps_spots _ _ _ _ _ _ H5.out hb hb.size)
          replace HX := Lib.hid (keeps_spots _ _ _ _ _ _ HX.out hb hb.size)
          replace B := B.trans (hb.mono B.size)
          clear hb
          clear q0 q1
          have a0 := b6.c 0 _ rfl
          have a1 := b6.c 1 _ rfl
          go_wp2_with fail
          refine (lPart_any _ ot ((n : Int) + 1) (2 * (iv : Int)) W8 HX.out hok hht).mono ?_
          rintro e W9 ⟨va, rfl, ha, hb⟩
          rw [HPA.out] at ha
          obtain ⟨Aa, cpa, rfl, _, _⟩ := spots_len ha 0 rfl
          replace b0 := b0.next hb
          replace b6 := b6.next hb
          replace b7 := b7.next hb
          replace H5 := Lib.hid (keeps_spots _ _ _ _ _ _ H5.out hb hb.size)
          replace HX := Lib.hid (keeps_spots _ _ _ _ _ _ HX.out hb hb.size)
          replace B := B.trans (hb.mono B.size)
          clear hb
          clear a0 a1 ha
          have a0 := b7.c 0 _ rfl
          have a1 := b7.c 1 _ rfl
          go_wp2_with fail
          refine (lPart_any _ ot ((n : Int) + 1) (2 * (iv : Int) + 1) W9 HX.out hok hht).mono ?_
          rintro e W10 ⟨vb, rfl, ha, hb⟩
          rw [HPB.out] at ha
          obtain ⟨Ab, cpb, rfl, _, _⟩ := spots_len ha 0 rfl
          go_wp2
          go_ret
          exact ⟨rfl, B.trans (hb.mono B.size)⟩
        · have HPA := Lib.hid e1
          have HPB := Lib.hid e2
          rw [e0] at H5
          have hl1 : (flat tl).length ≠ 0 := by have := flat_pos tl; omega
          have hl2 : (flat tr).length ≠ 0 := by have := flat_pos tr; omega
          have hsz : 1 + (flat tl).length + (flat tr).length ≤ 128 := by
            rcases at_part ot (n : Int) (iv : Int) with ⟨_, e⟩ | ⟨o, u, _, e, hle, _⟩
            · rw [e0] at e; cases e
            · have := congrArg List.length (e0.symm.trans e)
              simp only [List.length_cons, List.length_append] at this
              omega
          have hl3 : (flat tl).length + (flat tr).length ≤ 900000 := by omega
          have hl4 : ((false, 0, 0) :: (flat tl ++ flat tr) : List Sp).length ≤ 1000000 := by simp only [List.length_cons, List.length_append]; omega
          obtain ⟨m, hm⟩ : ∃ m, ((false, 0, 0) :: (flat tl ++ flat tr) : List Sp).length = m := ⟨_, rfl⟩
          obtain ⟨A5, c5, rfl, _, _⟩ := spots_len H5.out m hm
          have hm3 : ¬ m < 3 := by
            rw [← hm]
            simp only [List.length_cons, List.length_append]
            omega
          have hd3 : decide (m < 3) = false := decide_eq_false hm3
          have hd4 : decide ((m : Int) < 3) = false := decide_eq_false (by omega)
          obtain ⟨hlb, hua, hub⟩ := HLB.out
          have HBA := Lib.hid hlb
          have HUA := Lib.hid hua
          have HUB := Lib.hid hub
          have a0 := b6.c 0 _ rfl
          have a1 := b6.c 1 _ rfl
          clear e0 e1 e2 hsz hm hm3 hlb hua hub
          go_wp2_with fail
          refine (show Calls _ _ _ _ (fun e W' => e = .returned (.tuple #[vM ((n : Int) + 1) (2 * (iv : Int) + 1), .bool true]) ∧ Below W5.heap.size W5 W') from by have := lBeside_any ((n : Int) + 1) (2 * (iv : Int)) W5; rwa [HBA.out] at this).mono ?_
          rintro e W6 ⟨rfl, hb⟩
          replace b0 := b0.next hb
          replace b6 := b6.next hb
          replace b7 := b7.next hb
          replace H5 := Lib.hid (keeps_spots _ _ _ _ _ _ H5.out hb hb.size)
          replace HX := Lib.hid (keeps_spots _ _ _ _ _ _ HX.out hb hb.size)
          replace B := B.trans (hb.mono B.size)
          clear hb
          clear a0 a1 q0 q1
          have a0 := fun o => (b6.next (below_new W6 o)).c 0 _ rfl
          have a1 := fun o => (b6.next (below_new W6 o)).c 1 _ rfl
          go_wp2_with fail
          obtain ⟨W6b, hW, b8, hb⟩ : ∃ W, W6.alloc (.cells #[.int .i64 ((n : Int) + 1), .int .i64 (2 * (iv : Int) + 1)] 24) = W ∧ Box W W6.heap.size [.int .i64 ((n : Int) + 1), .int .i64 (2 * (iv : Int) + 1)] ∧ Below W6.heap.size W6 W := ⟨_, rfl, Box.new W6 _ _, below_new _ _⟩
          rw [hW]
          obtain ⟨g8, hg⟩ : ∃ g, W6.heap.size = g := ⟨_, rfl⟩
          rw [hg] at b8
          try rw [hg]
          replace b0 := b0.next hb
          replace b6 := b6.next hb
          replace b7 := b7.next hb
          replace H5 := Lib.hid (keeps_spots _ _ _ _ _ _ H5.out hb hb.size)
          replace HX := Lib.hid (keeps_spots _ _ _ _ _ _ HX.out hb hb.size)
          replace B := B.trans (hb.mono B.size)
          clear hb
          clear hW hg
          clear a0 a1
          refine (show Calls _ _ _ _ (fun e W' => e = .returned (.tuple #[vM (n : Int) (iv : Int), .bool true]) ∧ Below W6b.heap.size W6b W') from by have := lUp_any ((n : Int) + 1) (2 * (iv : Int)) W6b; rwa [HUA.out] at this).mono ?_
          rintro e W7 ⟨rfl, hb⟩
          replace b0 := b0.next hb
          replace b6 := b6.next hb
          replace b7 := b7.next hb
          replace b8 := b8.next hb
          replace H5 := Lib.hid (keeps_spots _ _ _ _ _ _ H5.out hb hb.size)
          replace HX := Lib.hid (keeps_spots _ _ _ _ _ _ HX.out hb hb.size)
          replace B := B.trans (hb.mono B.size)
          clear hb
          have a0 := fun o => (b7.next (below_new W7 o)).c 0 _ rfl
          have a1 := fun o => (b7.next (below_new W7 o)).c 1 _ rfl
          go_wp2_with fail
          obtain ⟨W7b, hW, b10, hb⟩ : ∃ W, W7.alloc (.cells #[.int .i64 (n : Int), .int .i64 (iv : Int)] 24) = W ∧ Box W W7.heap.size [.int .i64 (n : Int), .int .i64 (iv : Int)] ∧ Below W7.heap.size W7 W := ⟨_, rfl, Box.new W7 _ _, below_new _ _⟩
          rw [hW]
          obtain ⟨g10, hg⟩ : ∃ g, W7.heap.size = g := ⟨_, rfl⟩
          rw [hg] at b10
          try rw [hg]
          replace b0 := b0.next hb
          replace b6 := b6.next hb
          replace b7 := b7.next hb
          replace b8 := b8.next hb
          replace H5 := Lib.hid (keeps_spots _ _ _ _ _ _ H5.out hb hb.size)
          replace HX := Lib.hid (keeps_spots _ _ _ _ _ _ HX.out hb hb.size)
          replace B := B.trans (hb.mono B.size)
          clear hb
          clear hW hg
          clear a0 a1
          refine (show Calls _ _ _ _ (fun e W' => e = .returned (.tuple #[vM (n : Int) (iv : Int), .bool true]) ∧ Below W7b.heap.size W7b W') from by have := lUp_any ((n : Int) + 1) (2 * (iv : Int) + 1) W7b; rwa [HUB.out] at this).mono ?_
          rintro e W8 ⟨rfl, hb⟩
          replace b0 := b0.next hb
          replace b6 := b6.next hb
          replace b7 := b7.next hb
          replace b8 := b8.next hb
          replace b10 := b10.next hb
          replace H5 := Lib.hid (keeps_spots _ _ _ _ _ _ H5.out hb hb.size)
          replace HX := Lib.hid (keeps_spots _ _ _ _ _ _ HX.out hb hb.size)
          replace B := B.trans (hb.mono B.size)
          clear hb
          go_wp2_with fail
          obtain ⟨W9, hW, b12, hb⟩ : ∃ W, W8.alloc (.cells #[.int .i64 (n : Int), .int .i64 (iv : Int)] 24) = W ∧ Box W W8.heap.size [.int .i64 (n : Int), .int .i64 (iv : Int)] ∧ Below W8.heap.size W8 W := ⟨_, rfl, Box.new W8 _ _, below_new _ _⟩
          rw [hW]
          obtain ⟨g12, hg⟩ : ∃ g, W8.heap.size = g := ⟨_, rfl⟩
          rw [hg] at b12
          try rw [hg]
          replace b0 := b0.next hb
          replace b6 := b6.next hb
          replace b7 := b7.next hb
          replace b8 := b8.next hb
          replace b10 := b10.next hb
          replace H5 := Lib.hid (keeps_spots _ _ _ _ _ _ H5.out hb hb.size)
          replace HX := Lib.hid (keeps_spots _ _ _ _ _ _ HX.out hb hb.size)
          replace B := B.trans (hb.mono B.size)
          clear hb
          clear hW hg
          refine wp_region_results (fun r i => ([.bool true, .bool true, .bool true, .bool true, .bool true, .agg #[.int .i64 ((n : Int) + 1), .int .i64 (2 * (iv : Int) + 1)], .agg #[.int .i64 ((n : Int) + 1), .int .i64 (2 * (iv : Int) + 1)], .bool true, .bool true, .bool true, .bool true, .bool true, .bool true, .bool true, .bool true, .bool true, .agg #[.int .i64 (n : Int), .int .i64 (iv : Int)], .agg #[.int .i64 (n : Int), .int .i64 (iv : Int)], .bool true, .bool true, .bool true, .agg #[.int .i64 (n : Int), .int .i64 (iv : Int)], .agg #[.int .i64 (n : Int), .int .i64 (iv : Int)], .bool true, .bool true, .bool true, .slice A (spo ot).length ca, .agg #[.int .i64 ((n : Int) + 1), .int .i64 (2 * (iv : Int))], (r 1), .slice A (spo ot).length ca, .agg #[.int .i64 ((n : Int) + 1), .int .i64 (2 * (iv : Int) + 1)], (r 2), (r 3), .slice A5 m c5, .bool true, .bool true, .bool true] : List Value).getD i undef) [0, 28, 31, 32, 34] [0, 1, 1, 1, 1, 1, 1, 1, 1, 1, 1, 1, 1, 1, 1, 1, 1, 1, 1, 1, 1, 1, 1, 1, 1, 1, 1, 1, 1, 1, 1, 2, 3, 1, 4, 5, 5] (fun r q w' => (Below W9.heap.size W9 w') ∧ (1 < q → Spots w'.heap.size w' (flat tl) [(r 1)]) ∧ (2 < q → Spots w'.heap.size w' (flat tr) [(r 2)]) ∧ (3 < q → Spots w'.heap.size w' ((false, 0, 0) :: (flat tl ++ flat tr)) [(r 3)])) (by kernel_rfl) (by kernel_rfl) (fun r => ⟨⟨rfl, rfl, rfl, Nat.le_refl _, fun _ _ => rfl⟩, fun h => absurd h (Nat.not_lt_zero _), fun h => absurd h (Nat.not_lt_zero _), fun h => absurd h (Nat.not_lt_zero _)⟩) ?_ ?_
          · refine ObsR_of_ends (by kernel_rfl) ?_
            intro r Fr hEA
            refine ⟨?_, ?_, ?_, ?_, ?_, ?_, ?_, ?_, ?_, ?_, ?_, ?_, ?_, ?_, ?_, ?_, ?_, ?_, ?_, ?_, ?_, ?_, ?_, ?_, ?_, ?_, ?_, ?_, ?_, ?_, ?_, ?_, ?_, ?_, ?_, ?_, ?_, trivial⟩
            · refine obR_call (q := 0) (f := 14) (args := #[]) (want_none rfl) (by kernel_rfl) (fun w' => by simp [go_sem]) ?_
              intro w' hw
              refine (awake10_any w').mono ?_
              rintro e w2 ⟨rfl, hb⟩
              exact ⟨_, rfl, fun r' hr hv => ⟨rfl, ⟨hw.1.trans (hb.mono hw.1.size), fun h => absurd h (by decide), fun h => absurd h (by decide), fun h => absurd h (by decide)⟩⟩⟩
            · exact obR_move _ rfl (want_none rfl) (by kernel_rfl) (eval_dst hEA (j := 0) rfl rfl)
            · exact obR_move _ rfl (want_is hEA (g := 1) (x := true) (b := true) rfl rfl rfl rfl) (by kernel_rfl) (eval_out hEA (d := 9) (by kernel_rfl))
            · refine obR_val (want_none rfl) (by kernel_rfl) (fun ph w' hp hpm hw => ?_)
              have e94 : Fr.tmps[94]? = some (.bool true) := hEA.dst 1 _ 94 rfl rfl; have e95 : Fr.tmps[95]? = some (.bool true) := hEA.dst 2 _ 95 rfl rfl; simp [execOp, e94, e95, go_sem]
            · exact obR_move _ rfl (want_none rfl) (by kernel_rfl) (eval_dst hEA (j := 3) rfl rfl)
            · refine obR_val (want_is hEA (g := 4) (x := true) (b := true) rfl rfl rfl rfl) (by kernel_rfl) (fun ph w' hp hpm hw => ?_)
              have hc0 := (hw.1.cell (p := ⟨g8, 0, none⟩) b8.lt).trans (b8.c 0 _ rfl)
              have hc1 := (hw.1.cell (p := ⟨g8, 1, none⟩) b8.lt).trans (b8.c 1 _ rfl)
              have e8 : Fr.tmps[8]? = some (.pointer (some ⟨g8, 0, none⟩)) := at_out hEA (d := 8) (by kernel_rfl); simp [execOp, e8, hc0, hc1, go_sem]
            · refine obR_val (want_is hEA (g := 4) (x := true) (b := true) rfl rfl rfl rfl) (by kernel_rfl) (fun ph w' hp hpm hw => ?_)
              have hc0 := (hw.1.cell (p := ⟨g7, 0, none⟩) b7.lt).trans (b7.c 0 _ rfl)
              have hc1 := (hw.1.cell (p := ⟨g7, 1, none⟩) b7.lt).trans (b7.c 1 _ rfl)
              have e7 : Fr.tmps[7]? = some (.pointer (some ⟨g7, 0, none⟩)) := at_out hEA (d := 7) (by kernel_rfl); simp [execOp, e7, hc0, hc1, go_sem]
            · refine obR_val (want_is hEA (g := 4) (x := true) (b := true) rfl rfl rfl rfl) (by kernel_rfl) (fun ph w' hp hpm hw => ?_)
              have e98 : Fr.tmps[98]? = some (.agg #[.int .i64 ((n : Int) + 1), .int .i64 (2 * (iv : Int) + 1)]) := hEA.dst 5 _ 98 rfl rfl; have e99 : Fr.tmps[99]? = some (.agg #[.int .i64 ((n : Int) + 1), .int .i64 (2 * (iv : Int) + 1)]) := hEA.dst 6 _ 99 rfl rfl; simp [execOp, e98, e99, go_sem]
            · refine obR_val (want_none rfl) (by kernel_rfl) (fun ph w' hp hpm hw => ?_)
              have e97 : Fr.tmps[97]? = some (.bool true) := hEA.dst 4 _ 97 rfl rfl; have e100 : Fr.tmps[100]? = some (.bool true) := hEA.dst 7 _ 100 rfl rfl; simp [execOp, e97, e100, go_sem]
            · exact obR_move _ rfl (want_none rfl) (by kernel_rfl) (eval_dst hEA (j := 8) rfl rfl)
            · exact obR_move _ rfl (want_is hEA (g := 9) (x := true) (b := true) rfl rfl rfl rfl) (by kernel_rfl) (eval_out hEA (d := 11) (by kernel_rfl))
            · refine obR_val (want_none rfl) (by kernel_rfl) (fun ph w' hp hpm hw => ?_)
              have e102 : Fr.tmps[102]? = some (.bool true) := hEA.dst 9 _ 102 rfl rfl; have e103 : Fr.tmps[103]? = some (.bool true) := hEA.dst 10 _ 103 rfl rfl; simp [execOp, e102, e103, go_sem]
            · exact obR_move _ rfl (want_none rfl) (by kernel_rfl) (eval_dst hEA (j := 11) rfl rfl)
            · exact obR_move _ rfl (want_is hEA (g := 12) (x := true) (b := true) rfl rfl rfl rfl) (by kernel_rfl) (eval_out hEA (d := 13) (by kernel_rfl))
            · refine obR_val (want_none rfl) (by kernel_rfl) (fun ph w' hp hpm hw => ?_)
              have e105 : Fr.tmps[105]? = some (.bool true) := hEA.dst 12 _ 105 rfl rfl; have e106 : Fr.tmps[106]? = some (.bool true) := hEA.dst 13 _ 106 rfl rfl; simp [execOp, e105, e106, go_sem]
            · exact obR_move _ rfl (want_none rfl) (by kernel_rfl) (eval_dst hEA (j := 14) rfl rfl)
            · refine obR_val (want_is hEA (g := 15) (x := true) (b := true) rfl rfl rfl rfl) (by kernel_rfl) (fun ph w' hp hpm hw => ?_)
              have hc0 := (hw.1.cell (p := ⟨g10, 0, none⟩) b10.lt).trans (b10.c 0 _ rfl)
              have hc1 := (hw.1.cell (p := ⟨g10, 1, none⟩) b10.lt).trans (b10.c 1 _ rfl)
              have e10 : Fr.tmps[10]? = some (.pointer (some ⟨g10, 0, none⟩)) := at_out hEA (d := 10) (by kernel_rfl); simp [execOp, e10, hc0, hc1, go_sem]
            · refine obR_val (want_is hEA (g := 15) (x := true) (b := true) rfl rfl rfl rfl) (by kernel_rfl) (fun ph w' hp hpm hw => ?_)
              have hc0 := (hw.1.cell (p := ⟨w.heap.size, 0, none⟩) b0.lt).trans (b0.c 0 _ rfl)
              have hc1 := (hw.1.cell (p := ⟨w.heap.size, 1, none⟩) b0.lt).trans (b0.c 1 _ rfl)
              have e3 : Fr.tmps[3]? = some (.pointer (some ⟨w.heap.size, 0, none⟩)) := at_out hEA (d := 3) (by kernel_rfl); simp [execOp, e3, hc0, hc1, go_sem]
            · refine obR_val (want_is hEA (g := 15) (x := true) (b := true) rfl rfl rfl rfl) (by kernel_rfl) (fun ph w' hp hpm hw => ?_)
              have e109 : Fr.tmps[109]? = some (.agg #[.int .i64 (n : Int), .int .i64 (iv : Int)]) := hEA.dst 16 _ 109 rfl rfl; have e110 : Fr.tmps[110]? = some (.agg #[.int .i64 (n : Int), .int .i64 (iv : Int)]) := hEA.dst 17 _ 110 rfl rfl; simp [execOp, e109, e110, go_sem]
            · refine obR_val (want_none rfl) (by kernel_rfl) (fun ph w' hp hpm hw => ?_)
              have e108 : Fr.tmps[108]? = some (.bool true) := hEA.dst 15 _ 108 rfl rfl; have e111 : Fr.tmps[111]? = some (.bool true) := hEA.dst 18 _ 111 rfl rfl; simp [execOp, e108, e111, go_sem]
            · exact obR_move _ rfl (want_none rfl) (by kernel_rfl) (eval_dst hEA (j := 19) rfl rfl)
            · refine obR_val (want_is hEA (g := 20) (x := true) (b := true) rfl rfl rfl rfl) (by kernel_rfl) (fun ph w' hp hpm hw => ?_)
              have hc0 := (hw.1.cell (p := ⟨g12, 0, none⟩) b12.lt).trans (b12.c 0 _ rfl)
              have hc1 := (hw.1.cell (p := ⟨g12, 1, none⟩) b12.lt).trans (b12.c 1 _ rfl)
              have e12 : Fr.tmps[12]? = some (.pointer (some ⟨g12, 0, none⟩)) := at_out hEA (d := 12) (by kernel_rfl); simp [execOp, e12, hc0, hc1, go_sem]
            · refine obR_val (want_is hEA (g := 20) (x := true) (b := true) rfl rfl rfl rfl) (by kernel_rfl) (fun ph w' hp hpm hw => ?_)
              have hc0 := (hw.1.cell (p := ⟨w.heap.size, 0, none⟩) b0.lt).trans (b0.c 0 _ rfl)
              have hc1 := (hw.1.cell (p := ⟨w.heap.size, 1, none⟩) b0.lt).trans (b0.c 1 _ rfl)
              have e3 : Fr.tmps[3]? = some (.pointer (some ⟨w.heap.size, 0, none⟩)) := at_out hEA (d := 3) (by kernel_rfl); simp [execOp, e3, hc0, hc1, go_sem]
            · refine obR_val (want_is hEA (g := 20) (x := true) (b := true) rfl rfl rfl rfl) (by kernel_rfl) (fun ph w' hp hpm hw => ?_)
              have e114 : Fr.tmps[114]? = some (.agg #[.int .i64 (n : Int), .int .i64 (iv : Int)]) := hEA.dst 21 _ 114 rfl rfl; have e115 : Fr.tmps[115]? = some (.agg #[.int .i64 (n : Int), .int .i64 (iv : Int)]) := hEA.dst 22 _ 115 rfl rfl; simp [execOp, e114, e115, go_sem]
            · refine obR_val (want_none rfl) (by kernel_rfl) (fun ph w' hp hpm hw => ?_)
              have e113 : Fr.tmps[113]? = some (.bool true) := hEA.dst 20 _ 113 rfl rfl; have e116 : Fr.tmps[116]? = some (.bool true) := hEA.dst 23 _ 116 rfl rfl; simp [execOp, e113, e116, go_sem]
            · exact obR_move _ rfl (want_none rfl) (by kernel_rfl) (eval_dst hEA (j := 24) rfl rfl)
            · exact obR_move _ rfl (want_is hEA (g := 25) (x := true) (b := true) rfl rfl rfl rfl) (by kernel_rfl) (eval_out hEA (d := 0) (by kernel_rfl))
            · refine obR_val (want_is hEA (g := 25) (x := true) (b := true) rfl rfl rfl rfl) (by kernel_rfl) (fun ph w' hp hpm hw => ?_)
              have hc0 := (hw.1.cell (p := ⟨g6, 0, none⟩) b6.lt).trans (b6.c 0 _ rfl)
              have hc1 := (hw.1.cell (p := ⟨g6, 1, none⟩) b6.lt).trans (b6.c 1 _ rfl)
              have e6 : Fr.tmps[6]? = some (.pointer (some ⟨g6, 0, none⟩)) := at_out hEA (d := 6) (by kernel_rfl); simp [execOp, e6, hc0, hc1, go_sem]
            · refine obR_call (q := 1) (f := 19) (args := #[.slice A (spo ot).length ca, .agg #[.int .i64 ((n : Int) + 1), .int .i64 (2 * (iv : Int))]]) (want_is hEA (g := 25) (x := true) (b := true) rfl rfl rfl rfl) (by kernel_rfl) (fun w' => by have e119 : Fr.tmps[119]? = some (.slice A (spo ot).length ca) := hEA.dst 26 _ 119 rfl rfl; have e120 : Fr.tmps[120]? = some (.agg #[.int .i64 ((n : Int) + 1), .int .i64 (2 * (iv : Int))]) := hEA.dst 27 _ 120 rfl rfl; simp [e119, e120, go_sem]) ?_
              intro w' hw
              refine ((show Calls _ _ _ _ (fun e W' => ∃ v', e = .returned v' ∧ Spots W'.heap.size W' (flat tl) [v'] ∧ Below w'.heap.size w' W') from by have := lPart_any _ ot ((n : Int) + 1) (2 * (iv : Int)) w' (keeps_spots _ _ _ _ _ _ HX.out hw.1 hw.1.size) hok hht; rwa [HPA.out] at this)).mono ?_
              rintro e w2 ⟨v', rfl, hs, hb⟩
              exact ⟨_, rfl, fun r' hr hv => ⟨hv, ⟨hw.1.trans (hb.mono hw.1.size), fun _ => by rw [hv]; exact hs, fun h => absurd h (by decide), fun h => absurd h (by decide)⟩⟩⟩
            · exact obR_move _ rfl (want_is hEA (g := 25) (x := true) (b := true) rfl rfl rfl rfl) (by kernel_rfl) (eval_out hEA (d := 0) (by kernel_rfl))
            · refine obR_val (want_is hEA (g := 25) (x := true) (b := true) rfl rfl rfl rfl) (by kernel_rfl) (fun ph w' hp hpm hw => ?_)
              have hc0 := (hw.1.cell (p := ⟨g7, 0, none⟩) b7.lt).trans (b7.c 0 _ rfl)
              have hc1 := (hw.1.cell (p := ⟨g7, 1, none⟩) b7.lt).trans (b7.c 1 _ rfl)
              have e7 : Fr.tmps[7]? = some (.pointer (some ⟨g7, 0, none⟩)) := at_out hEA (d := 7) (by kernel_rfl); simp [execOp, e7, hc0, hc1, go_sem]
            · refine obR_call (q := 2) (f := 19) (args := #[.slice A (spo ot).length ca, .agg #[.int .i64 ((n : Int) + 1), .int .i64 (2 * (iv : Int) + 1)]]) (want_is hEA (g := 25) (x := true) (b := true) rfl rfl rfl rfl) (by kernel_rfl) (fun w' => by have e122 : Fr.tmps[122]? = some (.slice A (spo ot).length ca) := hEA.dst 29 _ 122 rfl rfl; have e123 : Fr.tmps[123]? = some (.agg #[.int .i64 ((n : Int) + 1), .int .i64 (2 * (iv : Int) + 1)]) := hEA.dst 30 _ 123 rfl rfl; simp [e122, e123, go_sem]) ?_
              intro w' hw
              refine ((show Calls _ _ _ _ (fun e W' => ∃ v', e = .returned v' ∧ Spots W'.heap.size W' (flat tr) [v'] ∧ Below w'.heap.size w' W') from by have := lPart_any _ ot ((n : Int) + 1) (2 * (iv : Int) + 1) w' (keeps_spots _ _ _ _ _ _ HX.out hw.1 hw.1.size) hok hht; rwa [HPB.out] at this)).mono ?_
              rintro e w2 ⟨v', rfl, hs, hb⟩
              exact ⟨_, rfl, fun r' hr hv => ⟨hv, ⟨hw.1.trans (hb.mono hw.1.size), fun _ => by rw [hr 1 (by decide)]; exact keeps_spots _ _ _ _ _ _ (hw.2.1 (by decide)) hb hb.size, fun _ => by rw [hv]; exact hs, fun h => absurd h (by decide)⟩⟩⟩
            · refine obR_call (q := 3) (f := 29) (args := #[(r 1), (r 2)]) (want_is hEA (g := 25) (x := true) (b := true) rfl rfl rfl rfl) (by kernel_rfl) (fun w' => by have e121 : Fr.tmps[121]? = some ((r 1)) := hEA.dst 28 _ 121 rfl rfl; have e124 : Fr.tmps[124]? = some ((r 2)) := hEA.dst 31 _ 124 rfl rfl; simp [e121, e124, go_sem]) ?_
              intro w' hw
              refine (refJoin_both (r 1) (r 2) (flat tl) (flat tr) w' (hw.2.1 (by decide)) (hw.2.2.1 (by decide)) hl1 hl2 hl3).mono ?_
              rintro e w2 ⟨v', rfl, hs, hb⟩
              exact ⟨_, rfl, fun r' hr hv => ⟨hv, ⟨hw.1.trans (hb.mono hw.1.size), fun _ => by rw [hr 1 (by decide)]; exact keeps_spots _ _ _ _ _ _ (hw.2.1 (by decide)) hb hb.size, fun _ => by rw [hr 2 (by decide)]; exact keeps_spots _ _ _ _ _ _ (hw.2.2.1 (by decide)) hb hb.size, fun _ => by rw [hv]; exact hs⟩⟩⟩
            · exact obR_move _ rfl (want_is hEA (g := 25) (x := true) (b := true) rfl rfl rfl rfl) (by kernel_rfl) (eval_out hEA (d := 5) (by kernel_rfl))
            · refine obR_call (q := 4) (f := 18) (args := #[(r 3), .slice A5 m c5]) (want_is hEA (g := 25) (x := true) (b := true) rfl rfl rfl rfl) (by kernel_rfl) (fun w' => by have e125 : Fr.tmps[125]? = some ((r 3)) := hEA.dst 32 _ 125 rfl rfl; have e126 : Fr.tmps[126]? = some (.slice A5 m c5) := hEA.dst 33 _ 126 rfl rfl; simp [e125, e126, go_sem]) ?_
              intro w' hw
              refine ((show Calls _ _ _ _ (fun e W' => e = .returned (.bool true) ∧ Below w'.heap.size w' W') from by have := sameS_any (r 3) _ _ _ w' (hw.2.2.2 (by decide)) (keeps_spots _ _ _ _ _ _ H5.out hw.1 hw.1.size) hl4; rwa [show decide ((false, 0, 0) :: (flat tl ++ flat tr) = (false, 0, 0) :: (flat tl ++ flat tr)) = true from decide_eq_true rfl] at this)).mono ?_
              rintro e w2 ⟨rfl, hb⟩
              exact ⟨_, rfl, fun r' hr hv => ⟨rfl, ⟨hw.1.trans (hb.mono hw.1.size), fun _ => by rw [hr 1 (by decide)]; exact keeps_spots _ _ _ _ _ _ (hw.2.1 (by decide)) hb hb.size, fun _ => by rw [hr 2 (by decide)]; exact keeps_spots _ _ _ _ _ _ (hw.2.2.1 (by decide)) hb hb.size, fun _ => by rw [hr 3 (by decide)]; exact keeps_spots _ _ _ _ _ _ (hw.2.2.2 (by decide)) hb hb.size⟩⟩⟩
            · refine obR_val (want_none rfl) (by kernel_rfl) (fun ph w' hp hpm hw => ?_)
              have e118 : Fr.tmps[118]? = some (.bool true) := hEA.dst 25 _ 118 rfl rfl; have e127 : Fr.tmps[127]? = some (.bool true) := hEA.dst 34 _ 127 rfl rfl; simp [execOp, e118, e127, go_sem]
            · refine obR_val (want_none rfl) (by kernel_rfl) (fun ph w' hp hpm hw => ?_)
              have e128 : Fr.tmps[128]? = some (.bool true) := hEA.dst 35 _ 128 rfl rfl; simp [execOp, e128, go_sem]
          · intro r w' hw
            simp only [laid, Act.put, List.setIfInBounds_toArray, List.set_cons_succ, List.set_cons_zero, List.getD_cons_succ, List.getD_cons_zero, Nat.zero_add, Nat.reduceAdd]
            go_wp2
            go_ret
            exact ⟨rfl, B.trans (hw.1.mono B.size)⟩

end Go.Proofs.Ytoddcpkogapolaa
