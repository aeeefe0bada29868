import Derived.Test.YtkmlnglmecjmeaaPlcN
import Derived.Test.YtkmlnglmecjmeaaGraB
import Derived.Test.YtkmlnglmecjmeaaTreeV
import Derived.Test.YtkmlnglmecjmeaaOwnNew
import Derived.Deep.RegionWith
import Derived.Test.YtkmlnglmecjmeaaLabCA
import Derived.Test.YtkmlnglmecjmeaaPhaseA
import Derived.Test.YtkmlnglmecjmeaaBoxM
/- Layer 12's levels of places: how they lie; whether a tree so high fits in at one (fits); the next level (deeper). Conditions: what is at each place reads as a tree's spots, or nothing's, of at most 1,000,000; levels below 40. -/
namespace Go.Proofs.Ytkmlnglmecjmeaa
open Go Go.RowKit
set_option linter.unusedVariables false

/-- A place of a level: which, what is there, and where that lies. -/
abbrev El := Nat × Option Tr × Hd
abbrev vH (h : Hd) : Value := .slice h.1 h.2.1 h.2.2
abbrev eC (k : Nat) (e : El) : List Value := [.int .i64 (k : Int), .int .i64 (e.1 : Int), vH e.2.2]
def IsE (k : Nat) : Rd El := fun _ _ e cs => cs = eC k e
theorem keeps_E (k : Nat) : Keeps (IsE k) := fun _ _ _ _ _ _ h _ _ => h
abbrev Lvl (k : Nat) : Rd (List El) := SliceOf 3 (IsE k)
theorem keeps_lvl (k : Nat) : Keeps (Lvl k) := keeps_slice (keeps_E k)
/-- What lies at each place. -/
def Parts (n : Nat) (w : World) (es : List El) : Prop := ∀ e ∈ es, Spots n w (spo e.2.1) [vH e.2.2] ∧ (spo e.2.1).length ≤ 1000000
theorem Parts.keep {n m : Nat} {w w' : World} {es : List El} (h : Parts n w es) (hb : Below n w w') (hm : n ≤ m) : Parts m w' es := fun e he => ⟨keeps_spots _ _ _ _ _ _ (h e he).1 hb hm, (h e he).2⟩
theorem Parts.append {n : Nat} {w : World} {es es' : List El} (h : Parts n w es) (h' : Parts n w es') : Parts n w (es ++ es') := fun e he => (List.mem_append.1 he).elim (h e) (h' e)
abbrev ns (es : List El) : List (Nat × Option Tr) := es.map fun e => (e.1, e.2.1)
theorem oneE (k : Nat) (e : El) : ∀ u ∈ eC k e, u.oneCell' = true := by
  intro u hu
  simp at hu
  rcases hu with rfl | rfl | rfl <;> rfl
abbrev infoPt : Prop := (Try.prog.info? 105).map (fun i => (i.zero, i.size, i.bytes)) = some (some (.agg #[.int .i64 0, .int .i64 0, .slice none 0 0]), 3, 40)
theorem infoP : infoPt := by unfold infoPt; kernel_rfl
/-- append onto a level of one's own. -/
theorem append_lvl (k : Nat) {ops : Array Oper} {rest : List Oper} {o : Oper} {a : Act} {Q : Exit → Act → World → Prop} (w : World) (hw : Region.wanted o (yielded ops a.tmps) = true) (so x : Operand)
    (ho : o.op = .call { callee := .builtin .append, args := #[so, x], argTypes := #[106, 106] })
    (base : Nat) (v : Value) (n : Nat) (ys : List Value) (hv : a.eval so = v) (hown : w.ownsRow base 105 3 v n ys)
    (n₀ : Nat) (V : Value) (xs : List El) (hx : a.eval x = V) (hL : Lvl k n₀ w xs [V]) (hb : n + xs.length ≤ 3000000) (hbase : base ≤ w.heap.size)
    (h : ∀ v' w', w'.ownsRow base 105 3 v' (n + xs.length) (ys ++ xs.flatMap (eC k)) → w.grownBy w' v.ownBlock → wpList Try.prog ops Q rest (a.put o.dst v') w') : wpList Try.prog ops Q (o :: rest) a w :=
  append_slice (enc := eC k) (s := 3) (R := IsE k) (fun _ _ _ _ h => h) (by decide) (fun _ => rfl) (oneE k) Try.underlying106 infoP rfl w hw so x ho base v n ys hv hown n₀ V xs hx hL (Nat.le_trans hb (by decide)) (by omega) hbase h
theorem own_lvl {k : Nat} {w : World} {base : Nat} {v : Value} {xs : List El} (h : w.ownsRow base 105 3 v xs.length (xs.flatMap (eC k))) : Lvl k w.heap.size w xs [v] := own_reads (enc := eC k) (s := 3) (R := IsE k) (fun _ _ _ => rfl) (by decide) (fun _ => rfl) h
theorem lvl_at {k n : Nat} {w : World} {es : List El} {v : Value} (h : Lvl k n w es [v]) :
    ∃ A cap, v = .slice A es.length cap ∧ es.length ≤ cap ∧ cap ≤ maxLen ∧ ∀ i, (hi : i < es.length) → ∃ b off, A = some ⟨b, off, none⟩ ∧ b < n ∧ w.cell? ⟨b, off + i * 3, none⟩ = some (.int .i64 (k : Int)) ∧ w.cell? ⟨b, off + i * 3 + 1, none⟩ = some (.int .i64 (es[i].1 : Int)) ∧ w.cell? ⟨b, off + i * 3 + 2, none⟩ = some (vH es[i].2.2) := by
  obtain ⟨A, cap, e, h1, h2, _, h3⟩ := h
  simp only [List.cons.injEq, and_true] at e
  refine ⟨A, cap, e, h1, h2, fun i hi => ?_⟩
  obtain ⟨b, off, rfl, hb, hc⟩ := h3 (by omega)
  obtain ⟨es', hl, hcell, hr⟩ := hc i hi
  have hr : es' = _ := hr
  subst hr
  refine ⟨b, off, rfl, hb, ?_, ?_, ?_⟩
  · simpa using hcell 0 (by omega)
  · simpa using hcell 1 (by omega)
  · simpa using hcell 2 (by omega)
theorem lvl_two (k : Nat) (w : World) (a b : El) (t : TypeId) (g : Nat) (hg : w.heap.size = g) (K I J : Int) (hK : (k : Int) = K) (hI : (a.1 : Int) = I) (hJ : (b.1 : Int) = J) : Lvl k (g + 1) (w.alloc (.cells #[.int .i64 K, .int .i64 I, vH a.2.2, .int .i64 K, .int .i64 J, vH b.2.2] t)) [a, b] [.slice (some ⟨g, 0, none⟩) 2 2] := by
  subst hg hK hI hJ
  refine ⟨some ⟨w.heap.size, 0, none⟩, 2, rfl, Nat.le_refl _, by decide, (fun h => by cases h), fun _ => ⟨w.heap.size, 0, rfl, by omega, fun i hi => ?_⟩⟩
  match i, hi with
  | 0, _ => exact ⟨eC k a, rfl, fun j hj => by
      match j, hj with
      | 0, _ => simp
      | 1, _ => simp
      | 2, _ => simp, rfl⟩
  | 1, _ => exact ⟨eC k b, rfl, fun j hj => by
      match j, hj with
      | 0, _ => simp
      | 1, _ => simp
      | 2, _ => simp, rfl⟩
theorem lvl_one (w : World) (a : El) (t : TypeId) (g : Nat) (hg : w.heap.size = g) (h0 : a.1 = 0) : Lvl 0 (g + 1) (w.alloc (.cells #[.int .i64 0, .int .i64 0, vH a.2.2] t)) [a] [.slice (some ⟨g, 0, none⟩) 1 1] := by
  subst hg
  refine ⟨some ⟨w.heap.size, 0, none⟩, 1, rfl, Nat.le_refl _, by decide, (fun h => by cases h), fun _ => ⟨w.heap.size, 0, rfl, by omega, fun i hi => ?_⟩⟩
  match i, hi with
  | 0, _ => exact ⟨eC 0 a, rfl, fun j hj => by
      match j, hj with
      | 0, _ => simp
      | 1, _ => simp [h0]
      | 2, _ => simp, rfl⟩
theorem heightO_any (q : Option Tr) (v : Value) (w : World) (h : Spots w.heap.size w (spo q) [v]) (hn : (spo q).length ≤ 1000000) : Calls Try.prog 51 #[v] w fun e W' => e = .returned (.int .i64 (htO q)) ∧ Below w.heap.size w W' := by
  cases q with
  | none =>
    refine (height_nil v w h).mono ?_
    rintro e W' ⟨rfl, rfl⟩
    exact ⟨rfl, Below.refl _ _⟩
  | some t => exact height_flat t v w h hn
set_option maxRecDepth 100000 in
set_option maxHeartbeats 4000000 in
theorem fits_any (k i h M : Int) (q : Option Tr) (A : Option Addr) (n c : Nat) (w : World) (hx : Spots w.heap.size w (spo q) [.slice A n c]) (hq : (spo q).length ≤ 1000000) (hk : 0 ≤ k ∧ k ≤ 100) (hM : -100 ≤ M ∧ M ≤ 2000000) :
    Calls Try.prog 70 #[.agg #[.int .i64 k, .int .i64 i, .slice A n c], .int .i64 h, .int .i64 M] w fun e W' => e = .returned (.bool (decide (max (htO q) h < M - k))) ∧ Below w.heap.size w W' := by
  have hsub : IntKind.i64.wrap (M - k) = M - k := by rw [IntKind.wrap_i64]; omega
  have hmx : (if htO q < h then h else htO q) = max (htO q) h := by split <;> omega
  go_enter Try.func70, Try.ntmps70
  go_wp2_with fail
  obtain ⟨W0, hW0, b3, B⟩ : ∃ W0, w.alloc (.cells #[.int .i64 k, .int .i64 i, .slice A n c] 105) = W0 ∧ Box W0 w.heap.size [.int .i64 k, .int .i64 i, .slice A n c] ∧ Below w.heap.size w W0 := ⟨_, rfl, Box.new w _ _, below_new _ _⟩
  rw [hW0]
  clear hW0
  have HX := Lib.hid (keeps_spots _ _ _ _ _ _ hx B B.size)
  obtain ⟨G, hG⟩ : ∃ G, w.heap.size = G := ⟨_, rfl⟩
  rw [hG] at b3
  try rw [hG]
  clear hx
  refine wp_region_results (fun r i => ([.pointer (some ⟨G, 2, none⟩), .slice A n c, .int .i64 (htO q), .int .i64 h, .int .i64 (max (htO q) h), .int .i64 M, .pointer (some ⟨G, 0, none⟩), .pointer (some ⟨G, 0, none⟩), .int .i64 k, .int .i64 (M - k), .bool (decide (max (htO q) h < M - k)), .bool (decide (max (htO q) h < M - k))] : List Value).getD i undef) [2] [0, 0, 0, 0, 1, 0, 0, 0, 0, 0, 1, 1] (fun r q w' => (Below W0.heap.size W0 w')) (by kernel_rfl) (by kernel_rfl) (fun r => ⟨rfl, rfl, rfl, Nat.le_refl _, fun _ _ => rfl⟩) ?_ ?_
  · refine ObsR_of_ends (by kernel_rfl) ?_
    intro r Fr hEA
    refine ⟨?_, ?_, ?_, ?_, ?_, ?_, ?_, ?_, ?_, ?_, ?_, ?_, trivial⟩
    · refine obR_val (want_none rfl) (by kernel_rfl) (fun ph w' hp hpm hw => ?_)
      have e3 : Fr.tmps[3]? = some (.pointer (some ⟨G, 0, none⟩)) := at_out hEA (d := 3) (by kernel_rfl); simp [execOp, e3, go_sem]
    · refine obR_val (want_none rfl) (by kernel_rfl) (fun ph w' hp hpm hw => ?_)
      have hc0 := (hw.cell (p := ⟨G, 2, none⟩) b3.lt).trans (b3.c 2 _ rfl)
      have e7 : Fr.tmps[7]? = some (.pointer (some ⟨G, 2, none⟩)) := hEA.dst 0 _ 7 rfl rfl; simp [execOp, e7, hc0, go_sem]
    · refine obR_call (q := 0) (f := 51) (args := #[.slice A n c]) (want_none rfl) (by kernel_rfl) (fun w' => by have e8 : Fr.tmps[8]? = some (.slice A n c) := hEA.dst 1 _ 8 rfl rfl; simp [e8, go_sem]) ?_
      intro w' hw
      refine (heightO_any q _ w' (keeps_spots _ _ _ _ _ _ HX.out hw hw.size) hq).mono ?_
      rintro e w2 ⟨rfl, hb⟩
      exact ⟨_, rfl, fun r' hr hv => ⟨rfl, hw.trans (hb.mono hw.size)⟩⟩
    · exact obR_move _ rfl (want_none rfl) (by kernel_rfl) (eval_out hEA (d := 1) (by kernel_rfl))
    · refine obR_val (want_none rfl) (by kernel_rfl) (fun ph w' hp hpm hw => ?_)
      have e9 : Fr.tmps[9]? = some (.int .i64 (htO q)) := hEA.dst 2 _ 9 rfl rfl; have e10 : Fr.tmps[10]? = some (.int .i64 h) := hEA.dst 3 _ 10 rfl rfl; simp [e9, e10, hmx, go_sem]
    · exact obR_move _ rfl (want_none rfl) (by kernel_rfl) (eval_out hEA (d := 2) (by kernel_rfl))
    · refine obR_val (want_none rfl) (by kernel_rfl) (fun ph w' hp hpm hw => ?_)
      have e3 : Fr.tmps[3]? = some (.pointer (some ⟨G, 0, none⟩)) := at_out hEA (d := 3) (by kernel_rfl); simp [execOp, e3, go_sem]
    · refine obR_val (want_none rfl) (by kernel_rfl) (fun ph w' hp hpm hw => ?_)
      have e13 : Fr.tmps[13]? = some (.pointer (some ⟨G, 0, none⟩)) := hEA.dst 6 _ 13 rfl rfl; simp [execOp, e13, go_sem]
    · refine obR_val (want_none rfl) (by kernel_rfl) (fun ph w' hp hpm hw => ?_)
      have hc0 := (hw.cell (p := ⟨G, 0, none⟩) b3.lt).trans (b3.c 0 _ rfl)
      have e14 : Fr.tmps[14]? = some (.pointer (some ⟨G, 0, none⟩)) := hEA.dst 7 _ 14 rfl rfl; simp [execOp, e14, hc0, go_sem]
    · refine obR_val (want_none rfl) (by kernel_rfl) (fun ph w' hp hpm hw => ?_)
      have e12 : Fr.tmps[12]? = some (.int .i64 M) := hEA.dst 5 _ 12 rfl rfl; have e15 : Fr.tmps[15]? = some (.int .i64 k) := hEA.dst 8 _ 15 rfl rfl; simp [execOp, e12, e15, hsub, go_sem]
    · refine obR_val (want_none rfl) (by kernel_rfl) (fun ph w' hp hpm hw => ?_)
      have e11 : Fr.tmps[11]? = some (.int .i64 (max (htO q) h)) := hEA.dst 4 _ 11 rfl rfl; have e16 : Fr.tmps[16]? = some (.int .i64 (M - k)) := hEA.dst 9 _ 16 rfl rfl; simp [execOp, e11, e16, go_sem]
    · refine obR_val (want_none rfl) (by kernel_rfl) (fun ph w' hp hpm hw => ?_)
      have e17 : Fr.tmps[17]? = some (.bool (decide (max (htO q) h < M - k))) := hEA.dst 10 _ 17 rfl rfl; simp [execOp, e17, go_sem]
  · intro r w' hw
    simp only [laid, Act.put, List.setIfInBounds_toArray, List.set_cons_succ, List.set_cons_zero, List.getD_cons_succ, List.getD_cons_zero, Nat.zero_add, Nat.reduceAdd]
    obtain ⟨wz, hwz⟩ : ∃ wz, w' = wz := ⟨_, rfl⟩
    rw [hwz] at hw
    rw [hwz]
    have B2 := B.trans (hw.mono B.size)
    clear hw hwz b3 B
    go_wp2
    go_ret
    exact ⟨rfl, B2⟩
theorem spots_off {w w' : World} {xs : List Sp} {v : Value} (h : Spots w.heap.size w xs [v]) (hb : ∀ b, v.ownBlock = some b → w'.heap[b]? = w.heap[b]?) (hs : w.heap.size ≤ w'.heap.size) : Spots w'.heap.size w' xs [v] := by
  obtain ⟨A, cap, e, h1, h2, h3, h4⟩ := h
  refine ⟨A, cap, e, h1, h2, h3, fun hp => ?_⟩
  obtain ⟨b, off, rfl, hbn, hc⟩ := h4 hp
  simp only [List.cons.injEq, and_true] at e
  refine ⟨b, off, rfl, by omega, fun i hi => ?_⟩
  obtain ⟨es, hl, hcell, hr⟩ := hc i hi
  refine ⟨es, hl, fun j hj => ?_, hr⟩
  rw [← hcell j hj]
  exact World.cell?_of_block (a := ⟨b, off + i * 3 + j, none⟩) (hb b (by rw [e]; rfl))
/-- What lies at each place, beside a block. -/
def PartsA (own : Option Nat) (w : World) (es : List El) : Prop := ∀ e ∈ es, Spots w.heap.size w (spo e.2.1) [vH e.2.2] ∧ (spo e.2.1).length ≤ 1000000 ∧ ∀ b, (vH e.2.2).ownBlock = some b → b < w.heap.size ∧ own ≠ some b
theorem PartsA.keep {own : Option Nat} {w w' : World} {es : List El} (h : PartsA own w es) (hb : Below w.heap.size w w') : PartsA own w' es := fun e he => ⟨keeps_spots _ _ _ _ _ _ (h e he).1 hb hb.size, (h e he).2.1, fun b hbb => ⟨Nat.lt_of_lt_of_le ((h e he).2.2 b hbb).1 hb.size, ((h e he).2.2 b hbb).2⟩⟩
theorem PartsA.append {own : Option Nat} {w : World} {es es' : List El} (h : PartsA own w es) (h' : PartsA own w es') : PartsA own w (es ++ es') := fun e he => (List.mem_append.1 he).elim (h e) (h' e)
theorem PartsA.grown {own own' : Option Nat} {w w' : World} {es : List El} (h : PartsA own w es) (hg : w.grownBy w' own) (ho : own' = own ∨ own' = some w.heap.size) : PartsA own' w' es := fun e he => by
  obtain ⟨h1, h2, h3⟩ := h e he
  refine ⟨spots_off h1 (fun b hb => ?_) hg.size, h2, fun b hb => ⟨Nat.lt_of_lt_of_le (h3 b hb).1 hg.size, ?_⟩⟩
  · exact hg.block b (h3 b hb).1 (fun e => (h3 b hb).2 e.symm)
  · rcases ho with rfl | rfl
    · exact (h3 b hb).2
    · intro e
      have := (h3 b hb).1
      simp only [Option.some.injEq] at e
      omega
/-- append onto a level of one's own, and where it then lies. -/
theorem append_lvl_new (k : Nat) {ops : Array Oper} {rest : List Oper} {o : Oper} {a : Act} {Q : Exit → Act → World → Prop} (w : World) (hw : Region.wanted o (yielded ops a.tmps) = true) (so x : Operand)
    (ho : o.op = .call { callee := .builtin .append, args := #[so, x], argTypes := #[106, 106] })
    (base : Nat) (v : Value) (n : Nat) (ys : List Value) (hv : a.eval so = v) (hown : w.ownsRow base 105 3 v n ys)
    (n₀ : Nat) (V : Value) (xs : List El) (hx : a.eval x = V) (hL : Lvl k n₀ w xs [V]) (hb : n + xs.length ≤ 3000000) (hbase : base ≤ w.heap.size)
    (h : ∀ v' w', w'.ownsRow base 105 3 v' (n + xs.length) (ys ++ xs.flatMap (eC k)) → w.grownBy w' v.ownBlock → (v'.ownBlock = v.ownBlock ∨ v'.ownBlock = some w.heap.size) → wpList Try.prog ops Q rest (a.put o.dst v') w') : wpList Try.prog ops Q (o :: rest) a w :=
  append_new (enc := eC k) (s := 3) (R := IsE k) (fun _ _ _ _ h => h) (by decide) (fun _ => rfl) (oneE k) Try.underlying106 infoP rfl w hw so x ho base v n ys hv hown n₀ V xs hx hL (Nat.le_trans hb (by decide)) (by omega) hbase h
set_option maxRecDepth 100000 in
set_option maxHeartbeats 4000000 in
theorem cloneS_own (v : Value) (xs : List Sp) (w : World) (h : Spots w.heap.size w xs [v]) (hn : xs.length ≤ 1000000) :
    Calls Try.prog 48 #[v] w fun e W' => ∃ v', e = .returned v' ∧ W'.ownsRow w.heap.size 56 3 v' xs.length (xs.flatMap spC) ∧ Below w.heap.size w W' := by
  have q22 : ∀ (w : World) (a : Option Addr) (n c n' c' : Nat), (binOp .eql 32 (.slice a n c) (.slice none n' c')).run Try.prog w = .ok (.bool a.isNone) w := fun w a n c n' c' => Lib.run_eql_slice_nil w _ _ a n c n' c' Try.underlying32
  have HM := Lib.hid h
  obtain ⟨A, cap, rfl, hlc, hcm, _⟩ := spots_at h
  have hcm2 : cap ≤ 9223372036854775807 := Nat.le_trans hcm (by decide)
  cases A with
  | none =>
    obtain ⟨_, _, e, _, _, h0, _⟩ := h
    simp only [List.cons.injEq, Value.slice.injEq, and_true] at e
    obtain ⟨rfl, _, rfl⟩ := e
    have hc := h0 rfl
    subst hc
    have hx : xs = [] := List.eq_nil_of_length_eq_zero (by omega)
    subst hx
    go_enter Try.func48, Try.ntmps48
    go_wp2
    go_ret
    exact ⟨_, rfl, World.ownsRow_nil _ w.heap.size _ _, Below.refl _ _⟩
  | some ad =>
    clear h hcm
    go_enter Try.func48, Try.ntmps48
    go_wp2_with (at_builtin; refine append_spots _ rfl _ _ rfl w.heap.size _ _ _ rfl (owns_empty w 56 3 (Nat.le_refl _)) w.heap.size _ xs rfl (keeps_spots _ _ _ _ _ _ HM.out (below_new w _) (Nat.le_refl _)) ?c1 ?c2 ?_)
    case c1 => omega
    case c2 => simp
    intro v' w' hown' hgr
    have B2 := ((Below.refl w.heap.size w).alloc (Nat.le_refl _) (.cells #[] 56)).grown hgr (by simp) (by intro k hk; simp [Value.ownBlock] at hk; omega)
    go_wp2
    go_ret
    exact ⟨_, rfl, by simpa using hown', B2⟩
theorem owns_base {w : World} {base m : Nat} {e : TypeId} {s : Nat} {v : Value} {n : Nat} {ys : List Value} (h : w.ownsRow base e s v n ys) (hm : m ≤ base) : w.ownsRow m e s v n ys := by
  refine ⟨h.1, ?_⟩
  rcases h.2 with h1 | ⟨g, cap, cur, h1, h2, h3⟩
  · exact .inl h1
  · exact .inr ⟨g, cap, cur, h1, by omega, h3⟩
set_option maxRecDepth 100000 in
set_option maxHeartbeats 4000000 in
theorem halves_own (a b : Int) (l r : Tr) (v : Value) (w : World) (h : Spots w.heap.size w (flat (.inner a b l r)) [v]) (hn : (flat (.inner a b l r)).length ≤ 1000000) :
    Calls Try.prog 85 #[v] w fun e W' => ∃ v1 v2, e = .returned (.tuple #[v1, v2, .bool true]) ∧ W'.ownsRow w.heap.size 56 3 v1 (flat l).length ((flat l).flatMap spC) ∧ W'.ownsRow w.heap.size 56 3 v2 (flat r).length ((flat r).flatMap spC) ∧ Below w.heap.size w W' := by
  have HM := Lib.hid h
  obtain ⟨A, cap, rfl, hlc, hcm, hp⟩ := spots_at h
  have hcm2 : cap ≤ 9223372036854775807 := Nat.le_trans hcm (by decide)
  obtain ⟨g, off, rfl, -, hc0, -, -⟩ := hp 0 (by simp [flat])
  replace hc0 : w.cell? ⟨g, off + 0 * 3, none⟩ = some (.bool false) := hc0
  simp only [Nat.zero_mul, Nat.add_zero] at hc0
  have hl := flat_inner_len a b l r
  obtain ⟨mid, hmid⟩ : ∃ m, 1 + (flat l).length = m := ⟨_, rfl⟩
  obtain ⟨A1, hr1, hS1⟩ := cut_mid h hlc 1 mid (by omega) (by omega)
  obtain ⟨A2, hr2, hS2⟩ := cut_from h mid (by omega)
  have e1 := drop_left a b l r
  have e2 := drop_right a b l r
  have e3 := endI_left a b l r
  rw [hmid] at e1 e2 e3
  rw [e1] at hS1
  rw [e2] at hS2
  clear e1 e2
  replace hr1 : ∀ wx, (Instr.slice 32 (.slice (some ⟨g, off, none⟩) (flat (.inner a b l r)).length cap) (some (.int .i64 1)) (some (.int .i64 ((mid : Nat) : Int))) none).run Try.prog wx = .ok (.slice A1 (mid - 1) (cap - 1)) wx := hr1
  have HR1 := Lib.hid hr1
  have HR2 := Lib.hid hr2
  have HE0 := Lib.hid (endI_flat (.inner a b l r))
  have HE1 := Lib.hid e3
  clear e3
  have HS1 := Lib.hid hS1
  have HS2 := Lib.hid hS2
  have hfl : (flat l).length ≤ 1000000 := by omega
  have hfr : (flat r).length ≤ 1000000 := by omega
  have hz : (((flat (.inner a b l r)).length : Int) == 0) = false := beq_eq_false_iff_ne.2 (by omega)
  have hlp : (0 : Int) < ((flat (.inner a b l r)).length : Int) := by omega
  clear h hp hcm hr1 hr2 hS1 hS2
  have hself : (((flat (.inner a b l r)).length : Int) == ((flat (.inner a b l r)).length : Int)) = true := by simp
  have hm1 : 1 ≤ mid := by omega
  have hm2 : mid ≤ (flat (.inner a b l r)).length := by omega
  clear hl hmid
  generalize flat (.inner a b l r) = xs at *
  go_enter Try.func85, Try.ntmps85
  go_wp2_with fail
  refine (end_any _ _ 0 w HM.out hn).mono ?_
  rintro e W1 ⟨rfl, B1⟩
  rw [HE0.out]
  go_wp2_with fail
  refine (end_any _ _ 1 W1 (keeps_spots _ _ _ _ _ _ HM.out B1 B1.size) hn).mono ?_
  rintro e W2 ⟨rfl, B2⟩
  rw [HE1.out]
  replace B2 := B1.trans (B2.mono B1.size)
  have hr1 := HR1.out
  have hr2 := HR2.out
  have B2d : Below w.heap.size w W2.drew := B2.trans ⟨rfl, rfl, rfl, Nat.le_refl _, fun _ _ => rfl⟩
  have K1 := cloneS_own _ (flat l) W2.drew (keeps_spots _ _ _ _ _ _ HS1.out B2d B2d.size) hfl
  have K2 := fun (W : World) (hW : Below w.heap.size w W) => cloneS_own _ (flat r) W (keeps_spots _ _ _ _ _ _ HS2.out hW hW.size) hfr
  go_wp2_with fail
  go_region_with (first
    | (go_at_call 48; refine (K2 _ (B2d.trans (hB3.mono B2d.size))).mono ?_; rintro e W4 ⟨v2, rfl, hv2, hB4⟩)
    | (go_at_call 48; refine K1.mono ?_; rintro e W3 ⟨v1, rfl, hv1, hB3⟩))
  all_goals
    go_wp2
    go_ret3
    exact ⟨v1, v2, rfl, owns_base (owns_below hv1 hB4) B2d.size, owns_base hv2 (Nat.le_trans B2d.size hB3.size), (B2d.trans (hB3.mono B2d.size)).trans (hB4.mono (Nat.le_trans B2d.size hB3.size))⟩
theorem besL_left {k i : Nat} (hk : k + 1 ≤ 60) (hi : i < 2 ^ k) : besL (((k : Int) + 1)) (2 * (i : Int)) = (((k : Int) + 1, 2 * (i : Int) + 1), true) := by
  have h1 : okL ((k : Int) + 1) (2 * (i : Int)) = true := (okL_iff _ _).2 ⟨k + 1, 2 * i, by omega, by omega, hk, by omega⟩
  unfold besL
  rw [h1, decide_eq_true (show ((k : Int) + 1) ≠ 0 by omega)]
  have h2 : (2 * (i : Int)) % 2 = 0 := by omega
  simp [h2]
theorem kids_ns (e : El) (hq : e.2.1 = none ∨ ∃ a b, e.2.1 = some (.leaf a b)) : kidsO (e.1, e.2.1) = [] := by
  rcases hq with h | ⟨a, b, h⟩ <;> rw [h] <;> rfl
set_option maxRecDepth 100000 in
set_option maxHeartbeats 16000000 in
theorem deeper_any (k : Nat) (es : List El) (v : Value) (w : World) (hv : Lvl k w.heap.size w es [v]) (hP : Parts w.heap.size w es) (hk : k ≤ 30) (hn : es.length ≤ 1100000) (hi : ∀ e ∈ es, e.1 < 2 ^ k) :
    Calls Try.prog 68 #[v] w fun e W' => ∃ v' es', e = .returned v' ∧ Lvl (k + 1) W'.heap.size W' es' [v'] ∧ Parts W'.heap.size W' es' ∧ ns es' = (ns es).flatMap kidsO ∧ Below w.heap.size w W' := by
  obtain ⟨A, cap, rfl, hlc, hcm, hp⟩ := lvl_at hv
  have hcm2 : cap ≤ 9223372036854775807 := Nat.le_trans hcm (by decide)
  have HP := Lib.hid hp
  have HQ := Lib.hid hP
  have HI := Lib.hid hi
  clear hp hcm hv hP hi
  go_enter Try.func68, Try.ntmps68
  go_wp2_with fail
  go_loopw [3, 5, 6, 7, 8, 9, 10, 11, 14] (fun bv _ _ _ _ _ _ _ iv wr => ∃ (ix : Nat) (out : List El) (wq : World) (vq : Value), wq = wr ∧ vq = bv ∧ ix ≤ es.length ∧ iv = .int .i64 (ix : Int) ∧ wr.ownsRow w.heap.size 105 3 bv out.length (out.flatMap (eC (k + 1))) ∧ Hid (ns out = (ns (es.take ix)).flatMap kidsO) ∧ out.length ≤ 2 * ix ∧ PartsA bv.ownBlock wr out ∧ Below w.heap.size w wr) (fun _ _ _ _ _ _ _ _ iv _ => es.length - (intOf iv).toNat)
  case atStart => exact ⟨0, [], _, _, rfl, rfl, Nat.zero_le _, rfl, World.ownsRow_nil _ _ _ _, Lib.hid rfl, Nat.le_refl _, (fun e he => by cases he), Below.refl _ _⟩
  case round =>
    obtain ⟨ix, out, wr, bv, rfl, rfl, hix, rfl, hO, HNS, hol, hPo, B⟩ := hrel
    have HO := Lib.hid hO
    have HPO := Lib.hid hPo
    by_cases hlt : ix < es.length
    · have hd : decide (ix < es.length) = true := decide_eq_true hlt
      have hil : (ix : Int) < (es.length : Int) := by omega
      have hgi : (0 : Int) ≤ (ix : Int) := by omega
      obtain ⟨g, off, rfl, hgn, hc0, hc1, hc2⟩ := HP.out ix hlt
      have k0 := (B.cell (p := ⟨g, off + ix * 3, none⟩) hgn).trans hc0
      have k1 := (B.cell (p := ⟨g, off + ix * 3 + 1, none⟩) hgn).trans hc1
      have k2 := (B.cell (p := ⟨g, off + ix * 3 + 2, none⟩) hgn).trans hc2
      obtain ⟨hX0, hXl⟩ := HQ.out _ (List.getElem_mem hlt)
      have hi1 := HI.out _ (List.getElem_mem hlt)
      have HT : Hid (ns (es.take (ix + 1)) = ns (es.take ix) ++ [(es[ix].1, es[ix].2.1)]) := Lib.hid (by show (es.take (ix + 1)).map _ = _; rw [List.take_succ_eq_append_getElem hlt, List.map_append]; rfl)
      obtain ⟨⟨i, q, xA, xN, xK⟩, hee⟩ : ∃ e, es[ix] = e := ⟨_, rfl⟩
      rw [hee] at k1 k2 hX0 hXl hi1 HT
      simp only [vH] at k1 k2 hX0 hXl hi1
      have hX := keeps_spots _ _ _ _ _ _ hX0 B B.size
      have HX := Lib.hid hX
      have hp2 : 2 ^ k ≤ 1073741824 := Nat.le_trans (Nat.pow_le_pow_right (by omega) hk) (by decide)
      have hi2 : i ≤ 1073741824 := by omega
      have HB1 := Lib.hid (besL_left (by omega) hi1)
      obtain ⟨K1, hK1⟩ : ∃ K1 : Int, (k : Int) + 1 = K1 := ⟨_, rfl⟩
      obtain ⟨I1, hI1⟩ : ∃ I1 : Int, 2 * (i : Int) = I1 := ⟨_, rfl⟩
      obtain ⟨I2, hI2⟩ : ∃ I2 : Int, I1 + 1 = I2 := ⟨_, rfl⟩
      rw [hK1, hI1, hI2] at HB1
      have hwK : IntKind.i64.wrap ((k : Int) + 1) = K1 := by rw [IntKind.wrap_i64]; omega
      have hwI : IntKind.i64.wrap (2 * (i : Int)) = I1 := by rw [IntKind.wrap_i64]; omega
      clear hX hX0 hee hc0 hc1 hc2 hgn hO hPo hi1 hp2
      go_wp2_with fail
      obtain ⟨W0, hW0, b5, b6, hb⟩ : ∃ W0, (wr.alloc (.cells #[.int .i64 (k : Int), .int .i64 (i : Int), .slice xA xN xK] 105)).alloc (.cells #[.int .i64 K1, .int .i64 I1] 85) = W0 ∧ Box W0 wr.heap.size [.int .i64 (k : Int), .int .i64 (i : Int), .slice xA xN xK] ∧ Box W0 (wr.heap.size + 1) [.int .i64 K1, .int .i64 I1] ∧ Below wr.heap.size wr W0 :=
        ⟨_, rfl, (Box.new wr _ _).next (below_new _ _), by have := Box.new (wr.alloc (.cells #[.int .i64 (k : Int), .int .i64 (i : Int), .slice xA xN xK] 105)) [.int .i64 K1, .int .i64 I1] 85; rwa [World.size_alloc] at this, below_new2 _ _ _⟩
      rw [hW0]
      obtain ⟨G, hG⟩ : ∃ G, wr.heap.size = G := ⟨_, rfl⟩
      obtain ⟨G2, hG2⟩ : ∃ G2, G + 1 = G2 := ⟨_, rfl⟩
      rw [hG, hG2] at b6
      rw [hG] at b5
      rw [hG, hG2]
      replace HO := Lib.hid (owns_below HO.out hb)
      replace HPO := Lib.hid (HPO.out.keep hb)
      replace HX := Lib.hid (keeps_spots _ _ _ _ _ _ HX.out hb hb.size)
      replace B := B.trans (hb.mono B.size)
      clear hW0 hb k0 k1 k2 hG hG2
      refine (lBeside_any K1 I1 W0).mono ?_
      rintro e W1 ⟨rfl, hb⟩
      rw [HB1.out]
      replace HO := Lib.hid (owns_below HO.out hb)
      replace HPO := Lib.hid (HPO.out.keep hb)
      replace HX := Lib.hid (keeps_spots _ _ _ _ _ _ HX.out hb hb.size)
      replace B := B.trans (hb.mono B.size)
      replace b5 := b5.next hb
      replace b6 := b6.next hb
      clear hb
      have q2 : (W1.alloc (.cells #[.int .i64 K1, .int .i64 I2] 85)).cell? ⟨G, 2, none⟩ = some (.slice xA xN xK) := ((below_new W1 (.cells #[.int .i64 K1, .int .i64 I2] 85)).cell (p := ⟨G, 2, none⟩) b5.lt).trans (b5.c 2 _ rfl)
      go_wp2_with fail
      obtain ⟨W2, hW2, b7, hb⟩ : ∃ W2, W1.alloc (.cells #[.int .i64 K1, .int .i64 I2] 85) = W2 ∧ Box W2 W1.heap.size [.int .i64 K1, .int .i64 I2] ∧ Below W1.heap.size W1 W2 := ⟨_, rfl, Box.new W1 _ _, below_new _ _⟩
      rw [hW2]
      obtain ⟨G3, hG3⟩ : ∃ G3, W1.heap.size = G3 := ⟨_, rfl⟩
      rw [hG3] at b7
      rw [hG3]
      replace HO := Lib.hid (owns_below HO.out hb)
      replace HPO := Lib.hid (HPO.out.keep hb)
      replace HX := Lib.hid (keeps_spots _ _ _ _ _ _ HX.out hb hb.size)
      replace B := B.trans (hb.mono B.size)
      replace b5 := b5.next hb
      replace b6 := b6.next hb
      clear hb hW2 q2 hG3
      have hq : q = none ∨ (∃ a b, q = some (.leaf a b)) ∨ ∃ a b l r, q = some (.inner a b l r) := by
        rcases q with _ | (_ | _)
        · exact Or.inl rfl
        · exact Or.inr (Or.inl ⟨_, _, rfl⟩)
        · exact Or.inr (Or.inr ⟨_, _, _, _, rfl⟩)
      rcases hq with rfl | ⟨a, b, rfl⟩ | ⟨a, b, l, r, rfl⟩
      · have HN2 : Hid (ns out = (ns (es.take (ix + 1))).flatMap kidsO) := Lib.hid (by rw [HT.out, List.flatMap_append, ← HNS.out]; simp [kidsO])
        refine (halves_nil _ W2 HX.out).mono ?_
        rintro e W3 ⟨rfl, hb⟩
        replace HO := Lib.hid (owns_below HO.out hb)
        replace HPO := Lib.hid (HPO.out.keep hb)
        replace B := B.trans (hb.mono B.size)
        clear hb b5 b6 b7 HX
        go_wp2
        go_roundw
        case rel => exact ⟨ix + 1, out, _, _, rfl, rfl, by omega, by go_num, HO.out, HN2, by omega, HPO.out, B⟩
        case measure => simp [intOf]; omega
      · have HN2 : Hid (ns out = (ns (es.take (ix + 1))).flatMap kidsO) := Lib.hid (by rw [HT.out, List.flatMap_append, ← HNS.out]; simp [kidsO])
        refine (halves_leaf a b _ W2 HX.out).mono ?_
        rintro e W3 ⟨rfl, hb⟩
        replace HO := Lib.hid (owns_below HO.out hb)
        replace HPO := Lib.hid (HPO.out.keep hb)
        replace B := B.trans (hb.mono B.size)
        clear hb b5 b6 b7 HX
        go_wp2
        go_roundw
        case rel => exact ⟨ix + 1, out, _, _, rfl, rfl, by omega, by go_num, HO.out, HN2, by omega, HPO.out, B⟩
        case measure => simp [intOf]; omega
      · refine (halves_own a b l r _ W2 HX.out hXl).mono ?_
        rintro e W3 ⟨v1, v2, rfl, ho1, ho2, hb⟩
        have hv1 := own_spots ho1
        have hv2 := own_spots ho2
        have hg2 : ∀ g', bv.ownBlock = some g' → g' < W2.heap.size := fun g' hg' => (owns_own HO.out g' hg').2
        have hob1 := fun b => owns_own ho1 b
        have hob2 := fun b => owns_own ho2 b
        clear ho1 ho2
        have hlr := flat_inner_len a b l r
        have hXl2 : (flat (.inner a b l r)).length ≤ 1000000 := hXl
        obtain ⟨A1, c1, rfl, -, -, -⟩ := spots_at hv1
        obtain ⟨A2, c2, rfl, -, -, -⟩ := spots_at hv2
        obtain ⟨n1, hn1⟩ : ∃ n1, (flat l).length = n1 := ⟨_, rfl⟩
        obtain ⟨n2, hn2⟩ : ∃ n2, (flat r).length = n2 := ⟨_, rfl⟩
        rw [hn1] at hv1
        rw [hn2] at hv2
        simp only [hn1] at hob1
        simp only [hn2] at hob2
        rw [hn1, hn2]
        obtain ⟨e1, he1⟩ : ∃ e1 : El, e1 = (2 * i, some l, A1, n1, c1) := ⟨_, rfl⟩
        obtain ⟨e2, he2⟩ : ∃ e2 : El, e2 = (2 * i + 1, some r, A2, n2, c2) := ⟨_, rfl⟩
        have HPT : Hid (PartsA bv.ownBlock W3 [e1, e2]) := Lib.hid (by
          intro z hz
          simp only [List.mem_cons, List.not_mem_nil, or_false] at hz
          rcases hz with rfl | rfl
          · rw [he1]; exact ⟨hv1, by show (flat l).length ≤ _; omega, fun b hb => ⟨(hob1 b hb).2, fun e => by have := (hob1 b hb).1; have := hg2 b e; omega⟩⟩
          · rw [he2]; exact ⟨hv2, by show (flat r).length ≤ _; omega, fun b hb => ⟨(hob2 b hb).2, fun e => by have := (hob2 b hb).1; have := hg2 b e; omega⟩⟩)
        have HN2 : Hid (ns (out ++ [e1, e2]) = (ns (es.take (ix + 1))).flatMap kidsO) := Lib.hid (by
          rw [HT.out, List.flatMap_append, ← HNS.out, he1, he2]
          show List.map _ _ = _
          rw [List.map_append]
          rfl)
        have HH : Hid (((k + 1 : Nat) : Int) = K1 ∧ ((e1.1 : Nat) : Int) = I1 ∧ ((e2.1 : Nat) : Int) = I2 ∧ vH e1.2.2 = .slice A1 n1 c1 ∧ vH e2.2.2 = .slice A2 n2 c2) := Lib.hid (by
          rw [he1, he2]
          refine ⟨by omega, by simp only; omega, by simp only; omega, rfl, rfl⟩)
        replace HO := Lib.hid (owns_below HO.out hb)
        replace HPO := Lib.hid (HPO.out.keep hb)
        replace B := B.trans (hb.mono B.size)
        replace b6 := b6.next hb
        replace b7 := b7.next hb
        have q0 := b6.c 0 _ rfl
        have q1 := b6.c 1 _ rfl
        have r0 := b7.c 0 _ rfl
        have r1 := b7.c 1 _ rfl
        have hol3 : out.length + 2 ≤ 3000000 := by omega
        clear hb b5 hv1 hv2 hlr hXl2 hXl HX he1 he2 hn1 hn2 hob1 hob2 hg2 hK1 hI1 hI2
        have BN := below_new W3 (.cells #[.int .i64 K1, .int .i64 I1, .slice A1 n1 c1, .int .i64 K1, .int .i64 I2, .slice A2 n2 c2] 105)
        have HL2 : Hid (Lvl (k + 1) (W3.heap.size + 1) (W3.alloc (.cells #[.int .i64 K1, .int .i64 I1, .slice A1 n1 c1, .int .i64 K1, .int .i64 I2, .slice A2 n2 c2] 105)) [e1, e2] [.slice (some ⟨W3.heap.size, 0, none⟩) 2 2]) := Lib.hid (by
          have h := lvl_two (k + 1) W3 e1 e2 105 _ rfl K1 I1 I2 HH.out.1 HH.out.2.1 HH.out.2.2.1
          rwa [HH.out.2.2.2.1, HH.out.2.2.2.2] at h)
        have HO3 := Lib.hid (owns_below HO.out BN)
        have B3 := B.trans (BN.mono B.size)
        have HPO3 := Lib.hid ((HPO.out.append HPT.out).keep BN)
        have hsz : w.heap.size ≤ W3.heap.size + 1 := by have := B.size; omega
        clear B BN HPT HPO
        go_wp2_with (at_builtin; refine append_lvl_new (k + 1) _ rfl _ _ rfl w.heap.size _ _ _ rfl HO3.out (W3.heap.size + 1) _ [e1, e2] rfl HL2.out ?c1 ?c2 ?_)
        case c1 => exact hol3
        case c2 => simpa using hsz
        intro v' w1 hown' hgr hnew
        have B4 := B3.grown hgr B3.size (fun k hk => (owns_own HO3.out k hk).1)
        have HOW : Hid (w1.ownsRow w.heap.size 105 3 v' (out ++ [e1, e2]).length ((out ++ [e1, e2]).flatMap (eC (k + 1)))) := Lib.hid (by rw [List.length_append, List.flatMap_append]; exact hown')
        have HPN := Lib.hid (HPO3.out.grown hgr (by rw [World.size_alloc]; exact hnew))
        have hol4 : (out ++ [e1, e2]).length ≤ 2 * (ix + 1) := by rw [List.length_append]; show out.length + 2 ≤ _; omega
        clear hown' hgr hnew HPO3 HO3 HO q0 q1 r0 r1 b6 b7 B3 HL2
        go_wp2
        go_roundw
        case rel => exact ⟨ix + 1, _, _, _, rfl, rfl, by omega, by go_num, HOW.out, HN2, hol4, HPN.out, B4⟩
        case measure => simp [intOf]; omega
    · have hd : decide (ix < es.length) = false := decide_eq_false hlt
      have hie : es.take ix = es := List.take_of_length_le (by omega)
      rw [hie] at HNS
      clear hO hPo hie
      go_wp2
      go_ret
      exact ⟨_, out, rfl, own_lvl HO.out, fun e he => ⟨(HPO.out e he).1, (HPO.out e he).2.1⟩, HNS.out, B⟩

end Go.Proofs.Ytkmlnglmecjmeaa
