/- Several texts in one: each part says what it proves, and under which conditions. -/
import Derived.Test.YtkmlnglmecjmeaaLabB
import Derived.Test.YtkmlnglmecjmeaaTreeKA
import Derived.Test.YtkmlnglmecjmeaaLabA
import Derived.Test.YtkmlnglmecjmeaaPhaseA

/- Where a member's leaf lies first, and the steps to it and to a label's spot, plainly. Of no program. No condition. -/
namespace Go.Proofs.Ytkmlnglmecjmeaa
open Go.RowKit
set_option linter.unusedVariables false

/-- Where a spot is there first, of those from the k-th on. -/
def ixF (s : Sp) : Nat → List Sp → Int
  | _, [] => -1
  | k, x :: xs => if x = s then (k : Int) else ixF s (k + 1) xs
theorem ixF_step (s : Sp) (xs : List Sp) (k : Nat) (h : k < xs.length) : ixF s k (xs.drop k) = if xs[k] = s then (k : Int) else ixF s (k + 1) (xs.drop (k + 1)) := by
  rw [List.drop_eq_getElem_cons h, ixF]
theorem ixF_off (s : Sp) (xs : List Sp) (k : Nat) (h : xs.length ≤ k) : ixF s k (xs.drop k) = -1 := by
  rw [List.drop_of_length_le h, ixF]
/-- How many spots lie ahead of what a way leads to. -/
def pos (t : Tr) (p : List Bool) : Nat := match sub t p with
  | some x => x.1
  | none => 0
theorem ixF_flat : ∀ (t : Tr) (m : Int × Int) (k : Nat) (rest : List Sp), ixF (true, m.1, m.2) k (flat t ++ rest) = match off t m with
    | some p => ((k + pos t p : Nat) : Int)
    | none => ixF (true, m.1, m.2) (k + (flat t).length) rest
  | .leaf a b, m, k, rest => by
    show (if (true, a, b) = (true, m.1, m.2) then (k : Int) else ixF (true, m.1, m.2) (k + 1) rest) = _
    by_cases e : (a, b) = m
    · subst e
      simp [off, pos, sub]
    · have e' : ¬ (true, a, b) = (true, m.1, m.2) := fun h => e (by simp at h; exact Prod.ext h.1 h.2)
      rw [if_neg e']
      simp [off, e, flat]
  | .inner a b l r, m, k, rest => by
    have e : flat (.inner a b l r) ++ rest = (false, a, b) :: (flat l ++ (flat r ++ rest)) := by simp [flat]
    rw [e, ixF, if_neg (by simp), ixF_flat l m (k + 1) (flat r ++ rest)]
    simp only [off]
    cases hl : off l m with
    | some p =>
      obtain ⟨o, hs⟩ := off_sub l m p hl
      have e1 : pos l p = o := by simp [pos, hs]
      have e2 : pos (.inner a b l r) (false :: p) = o + 1 := by simp [pos, sub, hs]
      simp only [e1, e2]
      congr 1
      omega
    | none =>
      simp only []
      rw [ixF_flat r m]
      cases hr : off r m with
      | some p =>
        obtain ⟨o, hs⟩ := off_sub r m p hr
        have e1 : pos r p = o := by simp [pos, hs]
        have e2 : pos (.inner a b l r) (true :: p) = o + 1 + (flat l).length := by simp [pos, sub, hs]
        simp only [Option.map_some, e1, e2]
        congr 1
        omega
      | none =>
        simp only [Option.map_none, flat, List.length_cons, List.length_append]
        congr 1
        omega
theorem ixF_spo (ot : Option Tr) (m : Int × Int) : ixF (true, m.1, m.2) 0 (spo ot) = match offO ot m with
    | some p => ((pos (ot.getD (.leaf 0 0)) p : Nat) : Int)
    | none => -1 := by
  cases ot with
  | none => rfl
  | some t =>
    have := ixF_flat t m 0 []
    rw [List.append_nil] at this
    show ixF (true, m.1, m.2) 0 (flat t) = _
    rw [this]
    show _ = match off t m with | some p => _ | none => _
    cases off t m with
    | some p => simp
    | none => simp [ixF]
theorem idx_snoc (d : List Bool) (b : Bool) : idx (d ++ [b]) = 2 * idx d + (if b then 1 else 0) := by
  induction d with
  | nil => simp [idx]
  | cons c d ih =>
    simp only [List.cons_append, idx, ih, List.length_append, List.length_cons, List.length_nil]
    cases c
    · simp
    · simp only [if_true, Nat.pow_succ]; omega
/-- On the way to a member: how far one has come, what is left. -/
structure On (t : Tr) (m : Int × Int) (d q : List Bool) (o : Nat) (u : Tr) : Prop where
  here : sub t d = some (o, u)
  left : off u m = some q
theorem On.start {t : Tr} {m : Int × Int} {p : List Bool} (h : off t m = some p) : On t m [] p 0 t := ⟨sub_nil t, h⟩
theorem On.spot {t : Tr} {m : Int × Int} {d q : List Bool} {o : Nat} {u : Tr} (h : On t m d q o u) : q = [] ∨ ∃ a b l r, u = .inner a b l r := by
  cases u with
  | leaf a b =>
    have := h.left
    simp only [off] at this
    by_cases e : (a, b) = m
    · rw [if_pos e] at this
      left
      simpa using this.symm
    · rw [if_neg e] at this; cases this
  | inner a b l r => exact Or.inr ⟨a, b, l, r, rfl⟩
theorem pos_lt {u : Tr} {m : Int × Int} {q : List Bool} (h : off u m = some q) : pos u q < (flat u).length := by
  obtain ⟨o, hs⟩ := off_sub u m q h
  have := sub_le hs
  simp only [pos, hs]
  simp [flat] at this
  omega
/-- At an inner spot: which half it is, and what is then left. -/
theorem On.step {t : Tr} {m : Int × Int} {d q : List Bool} {o : Nat} {a b : Int} {l r : Tr} (h : On t m d q o (.inner a b l r)) :
    ∃ (c : Bool) (q' : List Bool), q = c :: q' ∧ decide ((o + pos (.inner a b l r) q : Nat) ≥ o + 1 + (flat l).length) = c ∧ 0 < pos (.inner a b l r) q ∧
      On t m (d ++ [c]) q' (if c then o + 1 + (flat l).length else o + 1) (if c then r else l) ∧ o + pos (.inner a b l r) q = (if c then o + 1 + (flat l).length else o + 1) + pos (if c then r else l) q' := by
  have hq := h.left
  simp only [off] at hq
  cases hl : off l m with
  | some p =>
    simp only [hl, Option.some.injEq] at hq
    subst hq
    obtain ⟨x, hs⟩ := off_sub l m p hl
    have hlt := pos_lt hl
    have e : pos (.inner a b l r) (false :: p) = pos l p + 1 := by simp [pos, sub, hs]
    refine ⟨false, p, rfl, ?_, by omega, ⟨?_, ?_⟩, ?_⟩
    · rw [e]; simp; omega
    · rw [sub_snoc, h.here]; simp
    · simpa using hl
    · rw [e]; simp; omega
  | none =>
    simp only [hl, Option.map_eq_some_iff] at hq
    obtain ⟨p, hr, rfl⟩ := hq
    obtain ⟨x, hs⟩ := off_sub r m p hr
    have e : pos (.inner a b l r) (true :: p) = pos r p + 1 + (flat l).length := by simp [pos, sub, hs]
    refine ⟨true, p, rfl, ?_, by omega, ⟨?_, ?_⟩, ?_⟩
    · rw [e]; simp; omega
    · rw [sub_snoc, h.here]; simp
    · simpa using hr
    · rw [e]; simp; omega
/-- Where a half of what begins at a spot begins. -/
def halfI (xs : List Sp) (p : Int) (right : Bool) : Int := if p < 0 then -1 else if (xs.getD p.toNat (true, 0, 0)).1 then -1 else if right then endI xs (p + 1) else p + 1
theorem halfI_leaf {t : Tr} {d : List Bool} {o : Nat} {a b : Int} (h : sub t d = some (o, .leaf a b)) (c : Bool) : halfI (flat t) (o : Int) c = -1 := by
  obtain ⟨x, r, e, rfl⟩ := sub_drop t d o _ h
  have hg : (flat t).getD x.length (true, 0, 0) = (true, a, b) := by rw [e]; simp [flat]
  unfold halfI
  rw [if_neg (by omega), Int.toNat_natCast, hg]
  rfl
theorem halfI_inner {t : Tr} {d : List Bool} {o : Nat} {a b : Int} {l r : Tr} (h : sub t d = some (o, .inner a b l r)) (c : Bool) : halfI (flat t) (o : Int) c = ((if c then o + 1 + (flat l).length else o + 1 : Nat) : Int) := by
  obtain ⟨x, y, e, rfl⟩ := sub_drop t d o _ h
  have hg : (flat t).getD x.length (true, 0, 0) = (false, a, b) := by rw [e]; simp [flat]
  unfold halfI
  rw [if_neg (by omega), Int.toNat_natCast, hg]
  cases c
  · simp
  · have hd : (flat t).drop (x.length + 1) = flat l ++ (flat r ++ y) := by
      rw [e]
      have : x ++ (flat (.inner a b l r) ++ y) = (x ++ [(false, a, b)]) ++ (flat l ++ (flat r ++ y)) := by simp [flat]
      rw [this, show x.length + 1 = (x ++ [(false, a, b)]).length by simp, List.drop_left]
    have := endI_part (flat t) (x.length + 1) l (flat r ++ y) hd
    simp only [if_true, Bool.false_eq_true, if_false]
    rw [← this]
    congr 1
theorem atO_root (ot : Option Tr) : atO ot 0 0 = if (spo ot).length = 0 then -1 else 0 := by
  have h := atO_nat ot (k := 0) (i := 0) (by decide) (by decide)
  have h : atO ot 0 0 = _ := h
  rw [h]
  cases ot with
  | none => rfl
  | some t =>
    have := flat_pos t
    have e : subO (some t) (path 0 0) = some (0, t) := sub_nil t
    have : ¬ (spo (some t)).length = 0 := by show ¬ (flat t).length = 0; omega
    rw [e, if_neg this]
    rfl
theorem atO_lt (ot : Option Tr) (L I : Int) : atO ot L I < ((spo ot).length : Int) := by
  unfold atO
  split
  · cases ot with
    | none => simp [subO, spo]
    | some t =>
      cases hs : sub t (path L.toNat I.toNat) with
      | none => simp only [subO, hs]; omega
      | some x =>
        obtain ⟨o, u⟩ := x
        have := sub_le hs
        have := flat_pos u
        simp only [subO, hs, spo]; omega
  · omega
/-- One step further down. -/
theorem atO_step (ot : Option Tr) {k i : Nat} (h1 : k + 1 ≤ 60) (h2 : i < 2 ^ (k + 1)) :
    atO ot ((k + 1 : Nat) : Int) (i : Int) = halfI (spo ot) (atO ot (k : Int) ((i / 2 : Nat) : Int)) (decide (i % 2 = 1)) ∧ halfI (spo ot) (atO ot (k : Int) ((i / 2 : Nat) : Int)) (decide (i % 2 = 1)) < ((spo ot).length : Int) := by
  have hlt := atO_lt ot ((k + 1 : Nat) : Int) (i : Int)
  suffices h : atO ot ((k + 1 : Nat) : Int) (i : Int) = halfI (spo ot) (atO ot (k : Int) ((i / 2 : Nat) : Int)) (decide (i % 2 = 1)) by
    refine ⟨h, ?_⟩
    rw [← h]
    exact hlt
  have h3 : i / 2 < 2 ^ k := by rw [Nat.pow_succ] at h2; omega
  rw [atO_nat ot h1 h2, atO_nat ot (by omega) h3]
  have hp : path (k + 1) i = path k (i / 2) ++ [decide (i % 2 = 1)] := by
    rw [← path_snoc]
    congr 1
    by_cases hc : i % 2 = 1
    · simp [hc]; omega
    · simp [hc]; omega
  cases ot with
  | none => rfl
  | some t =>
    show (match sub t (path (k + 1) i) with | some x => (x.1 : Int) | none => -1) = halfI (flat t) (match sub t (path k (i / 2)) with | some x => (x.1 : Int) | none => -1) _
    rw [hp, sub_snoc]
    cases hs : sub t (path k (i / 2)) with
    | none => rfl
    | some x =>
      obtain ⟨o, u⟩ := x
      cases u with
      | leaf a b => simp only [halfI_leaf hs]
      | inner a b l r =>
        simp only [halfI_inner hs]
        cases decide (i % 2 = 1) <;> rfl

end Go.Proofs.Ytkmlnglmecjmeaa


/- The code's labels: which may be, what they are a half of, the half beside, one step down. Condition: as told. -/
namespace Go.Proofs.Ytkmlnglmecjmeaa
open Go Go.RowKit
set_option linter.unusedVariables false

theorem shr_zero (I : Int) {k : Nat} (hk : k ≤ 60) : (I / 2 ^ k == 0) = okL (k : Int) I := by
  have e : (2 : Int) ^ k = ((2 ^ k : Nat) : Int) := by simp
  have hp : 0 < 2 ^ k := Nat.two_pow_pos k
  rw [e]
  have ho : okL (k : Int) I = (decide (0 ≤ I) && decide (I < ((2 ^ k : Nat) : Int))) := by
    simp only [okL, Int.toNat_natCast]
    rw [decide_eq_true (show (0 : Int) ≤ (k : Int) by omega), decide_eq_true (show (k : Int) ≤ 60 by omega)]
    simp
  rw [ho]
  obtain ⟨P, hP⟩ : ∃ P : Int, ((2 ^ k : Nat) : Int) = P := ⟨_, rfl⟩
  have hp' : 0 < P := by rw [← hP]; exact Int.ofNat_lt.2 hp
  rw [hP]
  have hm := Int.mul_ediv_add_emod I P
  have h0 := Int.emod_nonneg I (show P ≠ 0 by omega)
  have h1 := Int.emod_lt_of_pos I hp'
  by_cases hz : I / P = 0
  · rw [hz] at hm ⊢
    simp at hm
    rw [decide_eq_true (show 0 ≤ I by omega), decide_eq_true (show I < P by omega)]
    rfl
  · rw [beq_eq_false_iff_ne.2 hz]
    by_cases a : 0 ≤ I
    · by_cases b : I < P
      · exact absurd (Int.ediv_eq_zero_of_lt a b) hz
      · simp [b]
    · simp [a]
set_option maxRecDepth 100000 in
set_option maxHeartbeats 4000000 in
theorem lRight_any (L I : Int) (w : World) : Calls Try.prog 80 #[vM L I] w fun e W' => e = .returned (.bool (okL L I)) ∧ Below w.heap.size w W' := by
  have B := below_new w (.cells #[.int .i64 L, .int .i64 I] 85)
  by_cases h0 : 0 ≤ L
  · by_cases h1 : L ≤ 60
    · obtain ⟨k, rfl⟩ := Int.eq_ofNat_of_zero_le h0
      have HO := Lib.hid (shr_zero I (k := k) (by omega))
      go_enter Try.func80, Try.ntmps80
      go_wp2
      go_ret
      exact ⟨rbool HO.out, B⟩
    · have HO : Hid (okL L I = false) := Lib.hid (by simp [okL, h1])
      go_enter Try.func80, Try.ntmps80
      go_wp2
      go_ret
      exact ⟨rbool HO.out.symm, B⟩
  · have HO : Hid (okL L I = false) := Lib.hid (by simp [okL, h0])
    go_enter Try.func80, Try.ntmps80
    go_wp2
    go_ret
    exact ⟨rbool HO.out.symm, B⟩

set_option maxRecDepth 100000 in
set_option maxHeartbeats 4000000 in
theorem isHalf_any (L I : Int) (w : World) : Calls Try.prog 89 #[vM L I] w fun e W' => e = .returned (.bool (okL L I && decide (L ≠ 0))) ∧ Below w.heap.size w W' := by
  go_enter Try.func89, Try.ntmps89
  go_wp2_with fail
  obtain ⟨W0, hW0, b0, B⟩ : ∃ W0, w.alloc (.cells #[.int .i64 L, .int .i64 I] 85) = W0 ∧ Box W0 w.heap.size [.int .i64 L, .int .i64 I] ∧ Below w.heap.size w W0 := ⟨_, rfl, Box.new w _ _, below_new _ _⟩
  rw [hW0]
  clear hW0
  refine (lRight_any L I W0).mono ?_
  rintro e W1 ⟨rfl, hb⟩
  replace b0 := b0.next hb
  replace B := B.trans (hb.mono B.size)
  have q0 := b0.c 0 _ rfl
  clear b0 hb
  cases ho : okL L I
  · have HE : Hid ((okL L I && decide (L ≠ 0)) = false) := Lib.hid (by rw [ho]; rfl)
    clear ho
    go_wp2
    go_ret
    exact ⟨rbool HE.out.symm, B⟩
  · obtain ⟨k, i, rfl, rfl, hk, hi⟩ := (okL_iff L I).1 ho
    by_cases hk0 : k = 0
    · subst hk0
      have HE : Hid ((okL ((0 : Nat) : Int) (i : Int) && decide (((0 : Nat) : Int) ≠ 0)) = false) := Lib.hid (by simp)
      clear ho hk hi
      go_wp2
      go_ret
      exact ⟨rbool HE.out.symm, B⟩
    · have HE : Hid ((okL (k : Int) (i : Int) && decide ((k : Int) ≠ 0)) = true) := Lib.hid (by rw [ho, decide_eq_true (show (k : Int) ≠ 0 by omega)]; rfl)
      have hp : decide (0 < k) = true := decide_eq_true (by omega)
      clear ho hk hi hk0
      go_wp2
      go_ret
      exact ⟨rbool HE.out.symm, B⟩

set_option maxRecDepth 100000 in
set_option maxHeartbeats 4000000 in
theorem lUp_any (L I : Int) (w : World) : Calls Try.prog 81 #[vM L I] w fun e W' => e = .returned (.tuple #[vM (upL L I).1.1 (upL L I).1.2, .bool (upL L I).2]) ∧ Below w.heap.size w W' := by
  go_enter Try.func81, Try.ntmps81
  go_wp2_with fail
  obtain ⟨W0, hW0, b0, b1, B⟩ := new2 w [.int .i64 L, .int .i64 I] [.int .i64 0, .int .i64 0] 85 85
  rw [hW0]
  clear hW0
  refine (isHalf_any L I W0).mono ?_
  rintro e W1 ⟨rfl, hb⟩
  replace b0 := b0.next hb
  replace b1 := b1.next hb
  replace B := B.trans (hb.mono B.size)
  clear hb
  have q0 := b0.c 0 _ rfl
  have q1 := b0.c 1 _ rfl
  have r0 := b1.c 0 _ rfl
  have r1 := b1.c 1 _ rfl
  have g0 := b1.f 0 (by decide)
  have g1 := b1.f 1 (by decide)
  have SB : ∀ (a b : Value), Below w.heap.size w ((W1.setCell ⟨w.heap.size + 1, 0, none⟩ a).setCell ⟨w.heap.size + 1, 1, none⟩ b) := fun a b => (B.setCell (p := ⟨w.heap.size + 1, 0, none⟩) (Nat.le_succ _) a).setCell (p := ⟨w.heap.size + 1, 1, none⟩) (Nat.le_succ _) b
  have HB := Lib.hid SB
  clear b0 b1 B SB
  cases hc : (okL L I && decide (L ≠ 0))
  · have HU : Hid (upL L I = ((0, 0), false)) := Lib.hid (by unfold upL; rw [hc]; rfl)
    clear hc
    go_wp2
    (try simp only [Exit.inBlock, Exit.then]); refine bodyPost_ret (v := .tuple #[.agg #[.int .i64 0, .int .i64 0], .bool false]) (by simp [results, Try.results81, go_sem, r0, r1]) rfl ?_
    rw [HU.out]
    exact ⟨rfl, HB.out _ _⟩
  · have HU : Hid (upL L I = ((L - 1, I / 2), true)) := Lib.hid (by unfold upL; rw [hc]; rfl)
    rw [Bool.and_eq_true] at hc
    obtain ⟨k, i, rfl, rfl, hk, hi⟩ := (okL_iff L I).1 hc.1
    have hi2 : i < 1152921504606846976 := Nat.lt_of_lt_of_le hi (Nat.le_trans (Nat.pow_le_pow_right (by omega) hk) (by decide))
    have hq : wrap64 ((i : Int) / 2) = (i : Int) / 2 := by unfold wrap64; omega
    clear hc hi
    go_wp2
    (try simp only [Exit.inBlock, Exit.then]); refine bodyPost_ret (v := .tuple #[.agg #[.int .i64 ((k : Int) - 1), .int .i64 ((i : Int) / 2)], .bool true]) (by simp [results, Try.results81, go_sem, r0, r1]) rfl ?_
    rw [HU.out]
    exact ⟨rfl, HB.out _ _⟩

set_option maxRecDepth 100000 in
set_option maxHeartbeats 4000000 in
theorem lBeside_any (L I : Int) (w : World) : Calls Try.prog 84 #[vM L I] w fun e W' => e = .returned (.tuple #[vM (besL L I).1.1 (besL L I).1.2, .bool (besL L I).2]) ∧ Below w.heap.size w W' := by
  go_enter Try.func84, Try.ntmps84
  go_wp2_with fail
  obtain ⟨W0, hW0, b0, b1, B⟩ := new2 w [.int .i64 L, .int .i64 I] [.int .i64 0, .int .i64 0] 85 85
  rw [hW0]
  clear hW0
  refine (isHalf_any L I W0).mono ?_
  rintro e W1 ⟨rfl, hb⟩
  replace b0 := b0.next hb
  replace b1 := b1.next hb
  replace B := B.trans (hb.mono B.size)
  clear hb
  have q0 := b0.c 0 _ rfl
  have q1 := b0.c 1 _ rfl
  have r0 := b1.c 0 _ rfl
  have r1 := b1.c 1 _ rfl
  have g0 := b1.f 0 (by decide)
  have g1 := b1.f 1 (by decide)
  have SB : ∀ (a b : Value), Below w.heap.size w ((W1.setCell ⟨w.heap.size + 1, 0, none⟩ a).setCell ⟨w.heap.size + 1, 1, none⟩ b) := fun a b => (B.setCell (p := ⟨w.heap.size + 1, 0, none⟩) (Nat.le_succ _) a).setCell (p := ⟨w.heap.size + 1, 1, none⟩) (Nat.le_succ _) b
  have HB := Lib.hid SB
  clear b0 b1 B SB
  cases hc : (okL L I && decide (L ≠ 0))
  · have HU : Hid (besL L I = ((0, 0), false)) := Lib.hid (by unfold besL; rw [hc]; rfl)
    clear hc
    go_wp2
    (try simp only [Exit.inBlock, Exit.then]); refine bodyPost_ret (v := .tuple #[.agg #[.int .i64 0, .int .i64 0], .bool false]) (by simp [results, Try.results84, go_sem, r0, r1]) rfl ?_
    rw [HU.out]
    exact ⟨rfl, HB.out _ _⟩
  · obtain ⟨y, hy⟩ : ∃ y, (if I % 2 = 0 then I + 1 else I - 1) = y := ⟨_, rfl⟩
    have HU : Hid (besL L I = ((L, y), true)) := Lib.hid (by unfold besL; rw [hc, if_pos rfl, hy])
    rw [Bool.and_eq_true] at hc
    obtain ⟨k, i, rfl, rfl, hk, hi⟩ := (okL_iff L I).1 hc.1
    have hx : bits .xor .i64 (i : Int) 1 = y := (xor_one hk hi).trans hy
    clear hc hi hy
    go_wp2
    (try simp only [Exit.inBlock, Exit.then]); refine bodyPost_ret (v := .tuple #[.agg #[.int .i64 (k : Int), .int .i64 y], .bool true]) (by simp [results, Try.results84, go_sem, r0, r1]) rfl ?_
    rw [HU.out]
    exact ⟨rfl, HB.out _ _⟩


end Go.Proofs.Ytkmlnglmecjmeaa


/- The code's way down: where halves begin, where a spot is there first. Condition: the slice reads as spots, of at most a million. -/
namespace Go.Proofs.Ytkmlnglmecjmeaa
open Go Go.RowKit
set_option linter.unusedVariables false

set_option maxRecDepth 100000 in
set_option maxHeartbeats 4000000 in
theorem half_any (v : Value) (xs : List Sp) (p : Int) (c : Bool) (w : World) (h : Spots w.heap.size w xs [v]) (hn : xs.length ≤ 1000000) (hp1 : p < (xs.length : Int)) (hp0 : -1000000 ≤ p) :
    Calls Try.prog 82 #[v, .int .i64 p, .bool c] w fun e W' => e = .returned (.int .i64 (halfI xs p c)) ∧ Below w.heap.size w W' := by
  have HX := Lib.hid h
  obtain ⟨A, cap, rfl, hlc, hcm, hp⟩ := spots_at h
  have hcm2 : cap ≤ 9223372036854775807 := Nat.le_trans hcm (by decide)
  clear h hcm
  by_cases h0 : p < 0
  · have HE : Hid (halfI xs p c = -1) := Lib.hid (by unfold halfI; rw [if_pos h0])
    clear hp
    go_enter Try.func82, Try.ntmps82
    go_wp2
    go_ret
    exact ⟨rint HE.out.symm, Below.refl _ _⟩
  · obtain ⟨o, rfl⟩ := Int.eq_ofNat_of_zero_le (show 0 ≤ p by omega)
    have hol : o < xs.length := by omega
    obtain ⟨g, off, rfl, hbn, k0, -, -⟩ := hp o hol
    have hgo : (0 : Int) ≤ (o : Int) := by omega
    have hg : xs.getD o (true, 0, 0) = xs[o] := by simp [hol]
    have HH : Hid (halfI xs (o : Int) c = if xs[o].1 then -1 else if c then endI xs ((o : Int) + 1) else (o : Int) + 1) := Lib.hid (by unfold halfI; rw [if_neg h0, Int.toNat_natCast, hg])
    clear hp hg h0
    obtain ⟨⟨b, x, y⟩, hb⟩ : ∃ b, xs[o] = b := ⟨_, rfl⟩
    rw [hb] at k0 HH
    clear hb
    have hle : (o : Int) ≤ 1000000 := by omega
    cases b
    · cases c
      · go_enter Try.func82, Try.ntmps82
        go_wp2
        go_ret
        exact ⟨rint HH.out.symm, Below.refl _ _⟩
      · go_enter Try.func82, Try.ntmps82
        go_wp2_with fail
        refine (end_any _ xs ((o : Int) + 1) w HX.out hn).mono ?_
        rintro e W1 ⟨rfl, B⟩
        go_wp2
        go_ret
        exact ⟨rint HH.out.symm, B⟩
    · go_enter Try.func82, Try.ntmps82
      go_wp2
      go_ret
      exact ⟨rint HH.out.symm, Below.refl _ _⟩


end Go.Proofs.Ytkmlnglmecjmeaa


/- The code's At and Part of layer 10. Condition: the slice reads as a tree's spots, or nothing's, that may be, at most 60 high. -/
namespace Go.Proofs.Ytkmlnglmecjmeaa
open Go Go.RowKit
set_option linter.unusedVariables false

set_option maxRecDepth 100000 in
set_option maxHeartbeats 8000000 in
theorem lAt_nat (ot : Option Tr) (hn : (spo ot).length ≤ 1000000) : ∀ (k i : Nat) (v : Value) (w : World), k ≤ 60 → i < 2 ^ k → Spots w.heap.size w (spo ot) [v] →
    Calls Try.prog 65 #[v, vM (k : Int) (i : Int)] w fun e W' => e = .returned (.int .i64 (atO ot (k : Int) (i : Int))) ∧ Below w.heap.size w W'
  | 0, i, v, w, hk, hi, h => by
    obtain rfl : i = 0 := by simpa using hi
    have HX := Lib.hid h
    obtain ⟨A, cap, rfl, hlc, hcm, _⟩ := spots_at h
    have hcm2 : cap ≤ 9223372036854775807 := Nat.le_trans hcm (by decide)
    clear h hcm
    have HE : Hid (atO ot ((0 : Nat) : Int) ((0 : Nat) : Int) = if (spo ot).length = 0 then -1 else 0) := Lib.hid (atO_root ot)
    have HR : Hid (∀ w, Calls Try.prog 80 #[vM 0 0] w fun e W' => e = .returned (.bool true) ∧ Below w.heap.size w W') := Lib.hid fun w => lRight_any 0 0 w
    have HU : Hid (∀ w, Calls Try.prog 81 #[vM 0 0] w fun e W' => e = .returned (.tuple #[vM 0 0, .bool false]) ∧ Below w.heap.size w W') := Lib.hid fun w => lUp_any 0 0 w
    obtain ⟨N, hN⟩ : ∃ N, (spo ot).length = N := ⟨_, rfl⟩
    rw [hN] at HE hlc
    rw [hN]
    clear HX hN hn hk hi
    go_enter Try.func65, Try.ntmps65
    go_wp2_with fail
    obtain ⟨W0, hW0, b0, B⟩ : ∃ W0, w.alloc (.cells #[.int .i64 0, .int .i64 0] 85) = W0 ∧ Box W0 w.heap.size [.int .i64 0, .int .i64 0] ∧ Below w.heap.size w W0 := ⟨_, rfl, Box.new w _ _, below_new _ _⟩
    rw [hW0]
    clear hW0
    refine (HR.out W0).mono ?_
    rintro e W1 ⟨rfl, hb⟩
    replace b0 := b0.next hb
    replace B := B.trans (hb.mono B.size)
    clear hb
    have q0 := b0.c 0 _ rfl
    have q1 := b0.c 1 _ rfl
    go_wp2_with fail
    refine (HU.out W1).mono ?_
    rintro e W2 ⟨rfl, hb⟩
    replace B := B.trans (hb.mono B.size)
    clear hb b0 q0 q1
    have B2 := B.trans ((below_new W2 (.cells #[.int .i64 0, .int .i64 0] 85)).mono B.size)
    by_cases hz : N = 0
    · subst hz
      go_wp2
      go_ret
      exact ⟨rint HE.out.symm, B2⟩
    · have hd : ¬ ((N : Int) ≤ 0) := by omega
      have HE2 : Hid (atO ot ((0 : Nat) : Int) ((0 : Nat) : Int) = 0) := Lib.hid (by rw [HE.out, if_neg hz])
      go_wp2
      go_ret
      exact ⟨rint HE2.out.symm, B2⟩
  | k + 1, i, v, w, hk, hi, h => by
    have HX := Lib.hid h
    obtain ⟨A, cap, rfl, hlc, hcm, _⟩ := spots_at h
    have hcm2 : cap ≤ 9223372036854775807 := Nat.le_trans hcm (by decide)
    clear h hcm
    have hi2 : i / 2 < 2 ^ k := by rw [Nat.pow_succ] at hi; omega
    have hst := atO_step ot hk hi
    have hz0 : (-1 : Int) ≤ atO ot (k : Int) ((i / 2 : Nat) : Int) := by
      rcases at_part ot (k : Int) ((i / 2 : Nat) : Int) with ⟨ha, -⟩ | ⟨o, u, ha, -⟩
      · omega
      · omega
    have hzl := atO_lt ot (k : Int) ((i / 2 : Nat) : Int)
    have IH0 := fun w' (h' : Spots w'.heap.size w' (spo ot) [.slice A (spo ot).length cap]) => lAt_nat ot hn k (i / 2) (.slice A (spo ot).length cap) w' (by omega) hi2 h'
    have HR : Hid (∀ w, Calls Try.prog 80 #[vM ((k + 1 : Nat) : Int) (i : Int)] w fun e W' => e = .returned (.bool true) ∧ Below w.heap.size w W') := Lib.hid fun w => by
      have := lRight_any ((k + 1 : Nat) : Int) (i : Int) w
      rwa [okL_nat hk hi] at this
    have HU : Hid (∀ w, Calls Try.prog 81 #[vM ((k + 1 : Nat) : Int) (i : Int)] w fun e W' => e = .returned (.tuple #[vM (k : Int) ((i / 2 : Nat) : Int), .bool true]) ∧ Below w.heap.size w W') := Lib.hid fun w => by
      have := lUp_any ((k + 1 : Nat) : Int) (i : Int) w
      rwa [upL_yes hk hi] at this
    obtain ⟨c, hc⟩ : ∃ c, decide (i % 2 = 1) = c := ⟨_, rfl⟩
    obtain ⟨z, hz⟩ : ∃ z, atO ot (k : Int) ((i / 2 : Nat) : Int) = z := ⟨_, rfl⟩
    rw [hz] at hst hz0 hzl IH0
    rw [hc] at hst
    have HF0 := fun w' (h' : Spots w'.heap.size w' (spo ot) [.slice A (spo ot).length cap]) => half_any (.slice A (spo ot).length cap) (spo ot) z c w' h' hn hzl (by omega)
    obtain ⟨y, hy⟩ : ∃ y, halfI (spo ot) z c = y := ⟨_, rfl⟩
    rw [hy] at hst HF0
    have IH := Lib.hid IH0
    have HF := Lib.hid HF0
    have HE := Lib.hid hst.1
    have hyl := hst.2
    have hrem : Int.tmod (i : Int) 2 = ((i % 2 : Nat) : Int) := by rw [Int.tmod_eq_emod_of_nonneg (by omega)]; omega
    have heq : (((i % 2 : Nat) : Int) == 1) = c := by
      rw [← hc]
      rcases Nat.mod_two_eq_zero_or_one i with e | e
      · rw [e]; rfl
      · rw [e]; rfl
    obtain ⟨rv, hrv⟩ : ∃ rv : Int, ((i % 2 : Nat) : Int) = rv := ⟨_, rfl⟩
    rw [hrv] at hrem heq
    clear hst IH0 HF0 hy hz hc hrv hz0 hzl hk hi hi2
    obtain ⟨jv, hjv⟩ : ∃ jv : Int, ((i / 2 : Nat) : Int) = jv := ⟨_, rfl⟩
    rw [hjv] at IH HU
    obtain ⟨iv, hiv⟩ : ∃ iv : Int, (i : Int) = iv := ⟨_, rfl⟩
    rw [hiv] at HU HE HR hrem
    rw [hiv]
    obtain ⟨Kv, hKv⟩ : ∃ Kv : Int, ((k + 1 : Nat) : Int) = Kv := ⟨_, rfl⟩
    rw [hKv] at HU HE HR
    rw [hKv]
    obtain ⟨kv, hkv⟩ : ∃ kv : Int, (k : Int) = kv := ⟨_, rfl⟩
    rw [hkv] at HU IH
    clear hjv hiv hKv hkv
    obtain ⟨N, hN⟩ : ∃ N, (spo ot).length = N := ⟨_, rfl⟩
    rw [hN] at HX hlc IH HF hyl
    rw [hN]
    clear hN hn
    have hd : ¬ ((N : Int) ≤ y) := by omega
    go_enter Try.func65, Try.ntmps65
    go_wp2_with fail
    obtain ⟨W0, hW0, b0, B⟩ : ∃ W0, w.alloc (.cells #[.int .i64 Kv, .int .i64 iv] 85) = W0 ∧ Box W0 w.heap.size [.int .i64 Kv, .int .i64 iv] ∧ Below w.heap.size w W0 := ⟨_, rfl, Box.new w _ _, below_new _ _⟩
    rw [hW0]
    clear hW0
    refine (HR.out W0).mono ?_
    rintro e W1 ⟨rfl, hb⟩
    replace b0 := b0.next hb
    replace B := B.trans (hb.mono B.size)
    clear hb
    have q0 := b0.c 0 _ rfl
    have q1 := b0.c 1 _ rfl
    go_wp2_with fail
    refine (HU.out W1).mono ?_
    rintro e W2 ⟨rfl, hb⟩
    replace b0 := b0.next hb
    replace B := B.trans (hb.mono B.size)
    clear hb q0 q1
    go_wp2_with fail
    obtain ⟨W3, hW3, b6, hb⟩ : ∃ W3, W2.alloc (.cells #[.int .i64 kv, .int .i64 jv] 85) = W3 ∧ Box W3 W2.heap.size [.int .i64 kv, .int .i64 jv] ∧ Below W2.heap.size W2 W3 := ⟨_, rfl, Box.new W2 _ _, below_new _ _⟩
    rw [hW3]
    obtain ⟨g6, hg6⟩ : ∃ g, W2.heap.size = g := ⟨_, rfl⟩
    rw [hg6] at b6
    rw [hg6]
    replace b0 := b0.next hb
    replace B := B.trans (hb.mono B.size)
    replace HX := Lib.hid (keeps_spots _ _ _ _ _ _ HX.out B B.size)
    clear hb hW3 hg6
    refine wp_region_results (fun r i => ([.slice A N cap, .slice A N cap, .agg #[.int .i64 kv, .int .i64 jv], .int .i64 z, .pointer (some ⟨w.heap.size, 1, none⟩), .int .i64 iv, .int .i64 rv, .bool c, .int .i64 y, .int .i64 y] : List Value).getD i undef) [3, 8] [0, 0, 0, 0, 0, 0, 0, 0, 1, 2] (fun r q w' => (Below W3.heap.size W3 w')) (by kernel_rfl) (by kernel_rfl) (fun r => ⟨rfl, rfl, rfl, Nat.le_refl _, fun _ _ => rfl⟩) ?_ ?_
    · refine ObsR_of_ends (by kernel_rfl) ?_
      intro r Fr hEA
      refine ⟨?_, ?_, ?_, ?_, ?_, ?_, ?_, ?_, ?_, ?_, trivial⟩
      · exact obR_move _ rfl (want_none rfl) (by kernel_rfl) (eval_out hEA (d := 0) (by kernel_rfl))
      · exact obR_move _ rfl (want_none rfl) (by kernel_rfl) (eval_out hEA (d := 0) (by kernel_rfl))
      · refine obR_val (want_none rfl) (by kernel_rfl) (fun ph w' hp hpm hw => ?_)
        have hc0 := (hw.cell (p := ⟨g6, 0, none⟩) b6.lt).trans (b6.c 0 _ rfl)
        have hc1 := (hw.cell (p := ⟨g6, 1, none⟩) b6.lt).trans (b6.c 1 _ rfl)
        have e6 : Fr.tmps[6]? = some (.pointer (some ⟨g6, 0, none⟩)) := at_out hEA (d := 6) (by kernel_rfl); simp [execOp, e6, hc0, hc1, go_sem]
      · refine obR_call (q := 0) (f := 65) (args := #[.slice A N cap, .agg #[.int .i64 kv, .int .i64 jv]]) (want_none rfl) (by kernel_rfl) (fun w' => by have e18 : Fr.tmps[18]? = some (.slice A N cap) := hEA.dst 1 _ 18 rfl rfl; have e19 : Fr.tmps[19]? = some (.agg #[.int .i64 kv, .int .i64 jv]) := hEA.dst 2 _ 19 rfl rfl; simp [e18, e19, go_sem]) ?_
        intro w' hw
        refine (IH.out w' (keeps_spots _ _ _ _ _ _ HX.out hw hw.size)).mono ?_
        rintro e w2 ⟨rfl, hb⟩
        exact ⟨_, rfl, fun r' hr hv => ⟨rfl, hw.trans (hb.mono hw.size)⟩⟩
      · refine obR_val (want_none rfl) (by kernel_rfl) (fun ph w' hp hpm hw => ?_)
        have e3 : Fr.tmps[3]? = some (.pointer (some ⟨w.heap.size, 0, none⟩)) := at_out hEA (d := 3) (by kernel_rfl); simp [execOp, e3, go_sem]
      · refine obR_val (want_none rfl) (by kernel_rfl) (fun ph w' hp hpm hw => ?_)
        have hc0 := (hw.cell (p := ⟨w.heap.size, 1, none⟩) b0.lt).trans (b0.c 1 _ rfl)
        have e21 : Fr.tmps[21]? = some (.pointer (some ⟨w.heap.size, 1, none⟩)) := hEA.dst 4 _ 21 rfl rfl; simp [execOp, e21, hc0, go_sem]
      · refine obR_val (want_none rfl) (by kernel_rfl) (fun ph w' hp hpm hw => ?_)
        have e22 : Fr.tmps[22]? = some (.int .i64 iv) := hEA.dst 5 _ 22 rfl rfl; simp [execOp, e22, hrem, go_sem]
      · refine obR_val (want_none rfl) (by kernel_rfl) (fun ph w' hp hpm hw => ?_)
        have e23 : Fr.tmps[23]? = some (.int .i64 rv) := hEA.dst 6 _ 23 rfl rfl; simp [execOp, e23, heq, go_sem]
      · refine obR_call (q := 1) (f := 82) (args := #[.slice A N cap, .int .i64 z, .bool c]) (want_none rfl) (by kernel_rfl) (fun w' => by have e17 : Fr.tmps[17]? = some (.slice A N cap) := hEA.dst 0 _ 17 rfl rfl; have e20 : Fr.tmps[20]? = some (.int .i64 z) := hEA.dst 3 _ 20 rfl rfl; have e24 : Fr.tmps[24]? = some (.bool c) := hEA.dst 7 _ 24 rfl rfl; simp [e17, e20, e24, go_sem]) ?_
        intro w' hw
        refine (HF.out w' (keeps_spots _ _ _ _ _ _ HX.out hw hw.size)).mono ?_
        rintro e w2 ⟨rfl, hb⟩
        exact ⟨_, rfl, fun r' hr hv => ⟨rfl, hw.trans (hb.mono hw.size)⟩⟩
      · refine obR_val (want_none rfl) (by kernel_rfl) (fun ph w' hp hpm hw => ?_)
        have e25 : Fr.tmps[25]? = some (.int .i64 y) := hEA.dst 8 _ 25 rfl rfl; simp [execOp, e25, go_sem]
    · intro r w' hw
      simp only [laid, Act.put, List.setIfInBounds_toArray, List.set_cons_succ, List.set_cons_zero, List.getD_cons_succ, List.getD_cons_zero, Nat.zero_add, Nat.reduceAdd]
      go_wp2
      go_ret
      exact ⟨rint HE.out.symm, B.trans (hw.mono B.size)⟩
set_option maxRecDepth 100000 in
set_option maxHeartbeats 8000000 in
theorem lAt_any (v : Value) (ot : Option Tr) (L I : Int) (w : World) (h : Spots w.heap.size w (spo ot) [v]) (hk : okT (spo ot) = true) (hh : htO ot ≤ 60) :
    Calls Try.prog 65 #[v, vM L I] w fun e W' => e = .returned (.int .i64 (atO ot L I)) ∧ Below w.heap.size w W' := by
  have hn : (spo ot).length ≤ 1000000 := by have := (okT_parts hk).1; omega
  cases ho : okL L I
  · have HE : Hid (atO ot L I = -1) := Lib.hid (by simp [atO, ho])
    have HR : Hid (∀ w, Calls Try.prog 80 #[vM L I] w fun e W' => e = .returned (.bool false) ∧ Below w.heap.size w W') := Lib.hid fun w => by
      have := lRight_any L I w
      rwa [ho] at this
    clear ho h hk hh hn
    go_enter Try.func65, Try.ntmps65
    go_wp2_with fail
    obtain ⟨W0, hW0, B⟩ : ∃ W0, w.alloc (.cells #[.int .i64 L, .int .i64 I] 85) = W0 ∧ Below w.heap.size w W0 := ⟨_, rfl, below_new _ _⟩
    rw [hW0]
    clear hW0
    refine (HR.out W0).mono ?_
    rintro e W1 ⟨rfl, hb⟩
    go_wp2
    go_ret
    exact ⟨rint HE.out.symm, B.trans (hb.mono B.size)⟩
  · obtain ⟨k, i, rfl, rfl, h1, h2⟩ := (okL_iff L I).1 ho
    exact lAt_nat ot hn k i v w h1 h2 h

set_option maxRecDepth 100000 in
set_option maxHeartbeats 8000000 in
theorem lPart_any (v : Value) (ot : Option Tr) (L I : Int) (w : World) (h : Spots w.heap.size w (spo ot) [v]) (hk : okT (spo ot) = true) (hh : htO ot ≤ 60) :
    Calls Try.prog 64 #[v, vM L I] w fun e W' => ∃ v', e = .returned v' ∧ Spots W'.heap.size W' (partO ot L I) [v'] ∧ Below w.heap.size w W' := by
  have hn : (spo ot).length ≤ 1000000 := by have := (okT_parts hk).1; omega
  have HX := Lib.hid h
  obtain ⟨A, cap, rfl, hlc, hcm, _⟩ := spots_at h
  have hcm2 : cap ≤ 9223372036854775807 := Nat.le_trans hcm (by decide)
  clear h hcm
  go_enter Try.func64, Try.ntmps64
  go_wp2_with fail
  obtain ⟨W0, hW0, B⟩ : ∃ W0, w.alloc (.cells #[.int .i64 L, .int .i64 I] 85) = W0 ∧ Below w.heap.size w W0 := ⟨_, rfl, below_new _ _⟩
  rw [hW0]
  clear hW0
  refine (lAt_any _ ot L I W0 (keeps_spots _ _ _ _ _ _ HX.out B B.size) hk hh).mono ?_
  rintro e W1 ⟨rfl, hb⟩
  replace B := B.trans (hb.mono B.size)
  clear hb
  replace HX := Lib.hid (keeps_spots _ _ _ _ _ _ HX.out B B.size)
  rcases at_part ot L I with ⟨ha, hp⟩ | ⟨o, u, ha, hp, hle, hpt, hen⟩
  · rw [ha]
    have HPP := Lib.hid hp
    have HEN : Hid (endI (spo ot) (-1) = -1) := Lib.hid rfl
    clear ha hp
    go_wp2_with fail
    refine (end_any _ _ (-1) W1 HX.out hn).mono ?_
    rintro e W2 ⟨rfl, hb⟩
    replace B := B.trans (hb.mono B.size)
    clear hb
    rw [HEN.out]
    go_wp2
    go_ret
    rw [HPP.out]
    exact ⟨_, rfl, own_spots (World.ownsRow_nil _ w.heap.size _ _), B⟩
  · rw [ha]
    have HPP := Lib.hid hp
    have HEN := Lib.hid hen
    obtain ⟨m, hm⟩ : ∃ m, (flat u).length = m := ⟨_, rfl⟩
    rw [hm] at hle hpt HEN
    have hum : m ≤ 1000000 := by omega
    obtain ⟨z, hz⟩ : ∃ z, o + m = z := ⟨_, rfl⟩
    rw [hz] at hle HEN
    obtain ⟨A1, hr1, hS1⟩ := cut_mid HX.out hlc o z (by omega) hle
    have e1 : z - o = m := by omega
    rw [e1] at hr1 hS1
    rw [hpt] at hS1
    have HS1 := Lib.hid hS1
    have HM := Lib.hid hm
    have hoz : o ≤ z := by omega
    have hz0 : ¬ ((z : Int) < 0) := by omega
    have HR1 := Lib.hid hr1
    clear ha hp hpt hen hm hS1 hr1 hz e1
    go_wp2_with fail
    refine (end_any _ _ (o : Int) W1 HX.out hn).mono ?_
    rintro e W2 ⟨rfl, hb⟩
    rw [HEN.out]
    have hr1 := HR1.out
    replace HS1 := Lib.hid (keeps_spots _ _ _ _ _ _ HS1.out hb hb.size)
    replace B := B.trans (hb.mono B.size)
    clear hb
    go_wp2_with fail
    refine (cloneS_any _ (flat u) W2 HS1.out (by rw [HM.out]; exact hum)).mono ?_
    rintro e W3 ⟨v', rfl, hs, hb⟩
    have HS := Lib.hid hs
    clear hs
    replace B := B.trans (hb.mono B.size)
    clear hb
    go_wp2
    go_ret
    rw [HPP.out]
    exact ⟨_, rfl, HS.out, B⟩

end Go.Proofs.Ytkmlnglmecjmeaa
