import Derived.RangeFuncNested
import Derived.RangeFuncBound
import Derived.RangeFuncCalls
import Derived.RangeFuncLeaves
import Derived.RangeFuncBox
import Derived.Shelf.Abstract
import Derived.Shelf.RegionOpen
import Derived.WalkKit
import Derived.OwnWalkIn
import Derived.TacticsInMore
import Derived.LoopNIn
import Derived.LoopIn
import Derived.Test.YtkmlnglmecjmeaaPlcL
/- Layer 12's Place: level by level, each from the right (slices.Backward), by the contracts of its parts. Conditions: the slice reads as a tree's spots, or nothing's, at most 20 high. -/
namespace Go.Proofs.Ytkmlnglmecjmeaa
open Go Go.RowKit Go.Shelf
set_option linter.unusedVariables false
attribute [local go_sem] Oper.semAt_some

/-- A place as a value. -/
abbrev vE (k : Nat) (e : El) : Value := .agg #[.int .i64 (k : Int), .int .i64 (e.1 : Int), .slice e.2.2.1 e.2.2.2.1 e.2.2.2.2]
theorem backward_any (A : Option Addr) (m c : Nat) (w : World) :
    Calls Try.prog 69 #[.slice A m c] w fun e w' => e = .returned (.func (.func 86) #[] #[.pointer (some ⟨w.heap.size, 0, none⟩)]) ∧ w' = w.alloc (.cells #[.slice A m c] 106) := by
  go_enter Try.func69, Try.ntmps69
  go_wp2
  go_ret
  exact ⟨rfl, rfl⟩
set_option maxRecDepth 100000 in
set_option maxHeartbeats 4000000 in
theorem backward1_in {α : Type} (f : α → Int × El) (L : List α) (n : Nat) (hn : 1 ≤ n) (l Bs n₀ k : Nat) (es : List El) (v : Value) (hl : es.length ≤ 2000000) (hL : L.length = es.length)
    (hf : ∀ m, (h1 : m < L.length) → (h2 : es.length - 1 - m < es.length) → f L[m] = (((es.length - 1 - m : Nat) : Int), es[es.length - 1 - m])) (J Jx : List α → World → Prop) (W : World)
    (hY : ∀ pre (x : α) W, J pre W → pre.length < L.length → YieldAt Fence.wide (n - 1) Try.prog l #[.int .i64 (f x).1, vE k (f x).2] W fun e W' =>
      (e = .returned (.bool true) ∧ J (pre ++ [x]) W' ∧ Below n₀ W W') ∨ (e = .returned (.bool false) ∧ Jx (pre ++ [x]) W'))
    (hv : Lvl k n₀ W es [v]) (hB : W.cell? ⟨Bs, 0, none⟩ = some v) (hBs : Bs < n₀) (h0 : J [] W) :
    CallsIn Fence.wide n Try.prog 86 #[.func (.yield l) #[] #[], .pointer (some ⟨Bs, 0, none⟩)] W fun e W' => (∃ v, e = .returned v) ∧
      ((∃ ys, ys = L ∧ J ys W') ∨ (∃ pre, (∃ m, m ≤ L.length ∧ pre = L.take m) ∧ Jx pre W')) := by
  obtain ⟨A, cap, rfl, hlc, hcm, hp⟩ := lvl_at hv
  have HP := Lib.hid hp
  have HF := Lib.hid hf
  have HL := Lib.hid hL
  have HBW := Lib.hid hB
  clear hp hv hcm hf hL
  refine callsIn_of_wp Try.func86 rfl trivial ?_ rfl
  simp only [Try.ntmps86, List.size_toArray, List.length_cons, List.length_nil, Nat.reduceAdd, Nat.reduceSub, Array.replicate_succ, Array.replicate_zero, List.push_toArray, List.append_toArray, List.nil_append, List.cons_append]
  gi_wp2
  clear hB
  gi_loopw [3] (fun i wr => ∃ (m : Nat) (iv : Int), m ≤ es.length ∧ i = .int .i64 iv ∧ Hid (iv = (es.length : Int) - m - 1) ∧ J (L.take m) wr ∧ Below n₀ W wr)
    (fun i _ => (intOf i + 1).toNat)
  case atStart => exact ⟨0, _, Nat.zero_le _, rfl, Lib.hid (by omega), by simpa using h0, Below.refl _ _⟩
  case round =>
    obtain ⟨m, iv, hm, rfl, HIV, hJs, hnx⟩ := hrel
    by_cases hlt : m < es.length
    · obtain ⟨p, hp⟩ : ∃ p, es.length - 1 - m = p := ⟨_, rfl⟩
      have hpl : p < es.length := by omega
      obtain rfl : iv = (p : Int) := by have := HIV.out; omega
      have hi : (p : Int) < (es.length : Int) := by omega
      have hge : (0 : Int) ≤ (p : Int) := by omega
      have hd : decide ((0 : Int) ≤ (p : Int)) = true := decide_eq_true hge
      obtain ⟨b, off, rfl, hb, hc0, hc1, hc2⟩ := HP.out p hpl
      have k0 := (hnx.cell (p := ⟨b, off + p * 3, none⟩) hb).trans hc0
      have k1 := (hnx.cell (p := ⟨b, off + p * 3 + 1, none⟩) hb).trans hc1
      have k2 := (hnx.cell (p := ⟨b, off + p * 3 + 2, none⟩) hb).trans hc2
      have hBr := (hnx.cell (p := ⟨Bs, 0, none⟩) hBs).trans HBW.out
      have hmL : m < L.length := by rw [HL.out]; exact hlt
      have hfx := HF.out m hmL (by omega)
      have HT := Lib.hid (List.take_succ_eq_append_getElem hmL)
      have hpp : ∀ (h : es.length - 1 - m < es.length), es[es.length - 1 - m] = es[p] := by intro h; simp only [hp]
      rw [hpp, hp] at hfx
      obtain ⟨⟨i, q, xA, xn, xc⟩, hq⟩ : ∃ q, es[p] = q := ⟨_, rfl⟩
      rw [hq] at k1 k2 hfx
      simp only [vH] at k1 k2
      obtain ⟨x, hxx⟩ : ∃ x, L[m] = x := ⟨_, rfl⟩
      rw [hxx] at hfx HT
      obtain ⟨fn, tmps, assign, body, hy, hR⟩ := hY _ x wr hJs (by rw [List.length_take]; omega)
      rw [← HT.out] at hR
      rw [hfx] at hy
      dsimp only [vE] at hy
      have HPW := Lib.hid hp
      have HN : Hid ((p : Int) - 1 = (es.length : Int) - ((m + 1 : Nat) : Int) - 1) := Lib.hid (by omega)
      clear hc0 hc1 hc2 hq hY hpp hp hfx hxx HIV
      gi_wp2
      refine hR.mono ?_
      rintro e W3 (⟨rfl, hJ3, hk3⟩ | ⟨rfl, hJx3⟩)
      · gi_wp2
        go_roundw
        case rel => exact ⟨m + 1, _, by omega, rfl, HN, hJ3, hnx.trans hk3⟩
        case measure => simp [intOf]
      · gi_wp2
        refine bodyPost_ret (results_none rfl _ _ _) rfl ?_
        exact ⟨⟨_, rfl⟩, .inr ⟨_, ⟨m + 1, by omega, rfl⟩, hJx3⟩⟩
    · have hiv : iv = -1 := by have := HIV.out; omega
      subst hiv
      have hkk : L.take m = L := List.take_of_length_le (by have := HL.out; omega)
      rw [hkk] at hJs
      clear hkk
      gi_wp2
      go_end0
      exact ⟨⟨_, rfl⟩, .inl ⟨_, rfl, hJs⟩⟩
theorem backward_stops {α : Type} (f : α → Int × El) (L : List α) (n : Nat) (hn : 1 ≤ n) (Bs n₀ k : Nat) (es : List El) (v : Value) (hl : es.length ≤ 2000000) (hL : L.length = es.length)
    (hf : ∀ m, (h1 : m < L.length) → (h2 : es.length - 1 - m < es.length) → f L[m] = (((es.length - 1 - m : Nat) : Int), es[es.length - 1 - m])) (w : World) (hn₀ : n₀ ≤ w.heap.size) (hBs : Bs < n₀) (hv : Lvl k n₀ w es [v]) (hB : w.cell? ⟨Bs, 0, none⟩ = some v) :
    SeqStopsK Fence.wide n Try.prog 86 #[.pointer (some ⟨Bs, 0, none⟩)] (fun x : α => #[.int .i64 (f x).1, vE k (f x).2]) (Below n₀) (fun ys => ys = L) (fun pre => ∃ m, m ≤ L.length ∧ pre = L.take m) L.length w := fun l J Jx W hW _ _ hY h0 =>
  backward1_in f L n hn l Bs n₀ k es v hl hL hf J Jx W hY (keeps_lvl k _ _ _ _ _ _ hv (hW.mono hn₀) (Nat.le_refl _)) ((hW.cell (p := ⟨Bs, 0, none⟩) (by show Bs < w.heap.size; omega)).trans hB) hBs h0

theorem spo_short {x : Option Tr} (h : okT (spo x) = true) : (spo x).length ≤ 127 := by
  have h1 := okT_few h
  cases x with
  | none => exact Nat.zero_le _
  | some t =>
    have h2 := flat_counts t
    have h3 : (lv (flat t)).length ≤ 64 := h1
    show (flat t).length ≤ 127
    omega
/-- How many levels may still come. -/
def lvMeas : Value → World → Nat
  | .slice (some a) (_ + 1) _, w => match w.cell? a with
    | some (.int _ k) => (22 - k).toNat
    | _ => 0
  | _, _ => 0
theorem meas_some {k n : Nat} {w : World} {es : List El} {v : Value} (h : Lvl k n w es [v]) (he : es.length ≠ 0) : lvMeas v w = 22 - k := by
  obtain ⟨A, cap, rfl, -, -, hp⟩ := lvl_at h
  obtain ⟨b, off, rfl, -, h0, -, -⟩ := hp 0 (by omega)
  simp only [Nat.zero_mul, Nat.add_zero] at h0
  obtain ⟨m, hm⟩ : ∃ m, es.length = m + 1 := ⟨es.length - 1, by omega⟩
  rw [hm]
  simp only [lvMeas, h0]
  omega
theorem meas_none {k n : Nat} {w : World} {es : List El} {v : Value} (h : Lvl k n w es [v]) (he : es.length = 0) : lvMeas v w = 0 := by
  obtain ⟨A, cap, rfl, -, -, hp⟩ := lvl_at h
  rw [he]
  cases A <;> rfl
abbrev mark (D : Nat) : Deferred := { target := .collected D, args := #[] }
theorem putObj_else (w : World) (D : Nat) (o : Obj) (k : Nat) (hk : k ≠ D) : (w.putObj D o).heap[k]? = w.heap[k]? := by
  rw [World.putObj]
  simp [Ne.symm hk]
/-- A function leaves with marks of loops that are over. -/
theorem leaves_marks {F : Fence} {n : Nat} {P : Program} {fn : Func} {tmps : Array Value} {R : Ending → World → Prop} : ∀ (Ds : List Nat) (w : World), Ds.Nodup → (∀ D ∈ Ds, w.heap[D]? = some (.deferred (some []))) →
    (∀ w', w'.os = w.os → w'.tape = w.tape → w'.output = w.output → w'.heap.size = w.heap.size → (∀ k, k ∉ Ds → w'.heap[k]? = w.heap[k]?) → LeavesInM F n P fn tmps R [] .returning w') → LeavesInM F n P fn tmps R (Ds.map mark) .returning w
  | [], w, _, _, h => h w rfl rfl rfl rfl fun _ _ => rfl
  | D :: Ds, w, hn, hD, h => by
    obtain ⟨h1, h2⟩ := List.nodup_cons.1 hn
    refine ⟨by simp, .inl ⟨D, _, rfl, run_takeDeferred (hD D (by simp)), ?_⟩⟩
    refine leaves_marks Ds _ h2 (fun E hE => ?_) fun w' e1 e2 e3 e4 e5 => ?_
    · rw [putObj_else _ _ _ _ (fun e : E = D => h1 (e ▸ hE))]
      exact hD E (List.mem_cons_of_mem _ hE)
    · refine h w' e1 e2 e3 (by rw [e4]; simp [World.putObj]) fun k hk => ?_
      rw [e5 k (fun hh => hk (List.mem_cons_of_mem _ hh)), putObj_else _ _ _ _ (fun e => hk (by simp [e]))]
/-- A block of cells abides what a loop does. -/
theorem cells_own {β : Type} (G : Nat) (cs : Array Value) (t : TypeId) : Own (fun (_ : β) W => W.heap[G]? = some (.cells cs t (0, 0))) := fun s X Y row hs hg hrow =>
  (hg.block G (Array.getElem?_eq_some_iff.1 hs).1 (fun e => by obtain ⟨o, ho, hc⟩ := hrow G e.symm; rw [hs] at ho; cases ho; cases hc)).trans hs
theorem box_cells {W : World} {G : Nat} {cs : Array Value} {t : TypeId} (h : W.heap[G]? = some (.cells cs t (0, 0))) : Box W G cs.toList :=
  ⟨fun i v hv => by simpa [World.cell?, h] using hv, fun i hi => by simp [World.frozen?, h]⟩
theorem ownFrom_box {β : Type} {B G : Nat} (hG : G < B) (c : Value) (cs : β → List Value) : OwnFrom B (fun s W => Box W G (c :: cs s)) := fun s X Y row hs hg hr =>
  hs.keep (hg.block G hs.lt (fun e => by have := (hr G e.symm).1; omega))
theorem ownFrom_turn {β : Type} {B g n : Nat} {w₀ : World} (hn : n ≤ w₀.heap.size) (hB : n ≤ B) : OwnFrom B (fun (_ : β) W => Turn g n w₀ W) := fun s X Y row hs hg hr =>
  hs.trans ⟨hg.os, hg.tape, hg.output, hg.size, fun k hk _ => hg.block k (by have := hs.size; omega) (fun e => by have := (hr k e.symm).1; omega)⟩
theorem keeps_from {B : Nat} {W W' : World} (h : Below W.heap.size W W') : KeepsFrom B W W' := ⟨h.size, fun k o _ hk _ => (h.block k (Array.getElem?_eq_some_iff.1 hk).1).trans hk⟩
/-- Some of a kind, as a list of that kind. -/
theorem sub_list {γ : Type} {p : γ → Prop} : ∀ (M : List γ), (∀ q ∈ M, p q) → ∃ L : List { q // p q }, L.map Subtype.val = M
  | [], _ => ⟨[], rfl⟩
  | q :: M, h => by
    obtain ⟨L, hL⟩ := sub_list M (fun z hz => h z (List.mem_cons_of_mem _ hz))
    exact ⟨⟨q, h q (by simp)⟩ :: L, by simp [hL]⟩
/-- The places of a level from the right, each with its number. -/
def backs (es : List El) : List (Int × El) := (es.zipIdx.reverse).map fun q => ((q.2 : Int), q.1)
theorem backs_len (es : List El) : (backs es).length = es.length := by simp [backs]
theorem backs_at (es : List El) (m : Nat) (h1 : m < (backs es).length) (h2 : es.length - 1 - m < es.length) : (backs es)[m] = (((es.length - 1 - m : Nat) : Int), es[es.length - 1 - m]) := by
  simp [backs]
theorem backs_els (es : List El) : (backs es).map (·.2) = es.reverse := by
  unfold backs
  rw [List.map_map]
  have : ((fun x : Int × El => x.2) ∘ fun q : El × Nat => ((q.2 : Int), q.1)) = Prod.fst := rfl
  rw [this, List.map_reverse]
  simp
set_option maxRecDepth 100000 in
set_option maxHeartbeats 16000000 in
theorem place_in (v : Value) (x : Option Tr) (h : Int) (w : World) (hx : Spots w.heap.size w (spo x) [v]) (hk : okT (spo x) = true) (hh : htO x ≤ 20) (h0 : -1 ≤ h) (h1 : h ≤ 1000) :
    CallsIn Fence.wide 6 Try.prog 50 #[v, .int .i64 h] w fun e W' => e = .returned (vM (placeO x h).1 (placeO x h).2) ∧ Below w.heap.size w W' := by
  have HX := Lib.hid hx
  obtain ⟨A, cap, rfl, -, -, -⟩ := spots_at hx
  obtain ⟨N, hN⟩ : ∃ N, (spo x).length = N := ⟨_, rfl⟩
  have hN2 : N ≤ 1000000 := by have := spo_short hk; omega
  rw [hN] at HX
  rw [hN]
  clear hx
  refine callsIn_of_wp_marks Try.func50 rfl trivial ?_ rfl
  simp only [Try.ntmps50, List.size_toArray, List.length_cons, List.length_nil, Nat.reduceAdd, Nat.reduceSub, Array.replicate_succ, Array.replicate_zero, List.push_toArray, List.append_toArray, List.nil_append, List.cons_append]
  gi_wp2_with fail
  obtain ⟨W0, hW0, b3, b4, hb⟩ : ∃ W0, (w.alloc (.cells #[.int .i64 h] 3)).alloc (.cells #[.int .i64 0, .int .i64 0] 85) = W0 ∧ Box W0 w.heap.size [.int .i64 h] ∧ Box W0 (w.heap.size + 1) [.int .i64 0, .int .i64 0] ∧ Below w.heap.size w W0 :=
    ⟨_, rfl, (Box.new w _ _).next (below_new _ _), by have := Box.new (w.alloc (.cells #[.int .i64 h] 3)) [.int .i64 0, .int .i64 0] 85; rwa [World.size_alloc] at this, below_new2 _ _ _⟩
  rw [hW0]
  replace HX := Lib.hid (keeps_spots _ _ _ _ _ _ HX.out hb hb.size)
  obtain ⟨G3, hG3⟩ : ∃ G3, w.heap.size = G3 := ⟨_, rfl⟩
  obtain ⟨G4, hG4⟩ : ∃ G4, G3 + 1 = G4 := ⟨_, rfl⟩
  have B : Below w.heap.size w W0 := hb
  have hwG4 : w.heap.size ≤ G4 := by omega
  have hwG3 : w.heap.size ≤ G3 := by omega
  rw [hG3, hG4] at b4
  rw [hG3] at b3
  try rw [hG3, hG4]
  have HH := Lib.hid (heightO_any x (.slice A N cap) W0 HX.out (by omega))
  clear hW0 hb hG3 hG4
  refine ⟨trivial, ?_⟩
  refine (callsIn_wide.2 HH.out).mono ?_
  rintro e W1 ⟨rfl, hb⟩
  replace HX := Lib.hid (keeps_spots _ _ _ _ _ _ HX.out hb hb.size)
  replace b3 := b3.next hb
  replace b4 := b4.next hb
  replace B := B.trans (hb.mono B.size)
  obtain ⟨M, hM⟩ : ∃ M, htO x = M := ⟨_, rfl⟩
  rw [hM]
  clear hb HH
  gi_wp2_with fail
  obtain ⟨W2, hW2, b5, hL0, hb⟩ : ∃ W2, (W1.alloc (.cells #[.int .i64 M] 3)).alloc (.cells #[.int .i64 0, .int .i64 0, .slice A N cap] 105) = W2 ∧ Box W2 W1.heap.size [.int .i64 M] ∧ Lvl 0 W2.heap.size W2 [(0, x, A, N, cap)] [.slice (some ⟨W1.heap.size + 1, 0, none⟩) 1 1] ∧ Below W1.heap.size W1 W2 :=
    ⟨_, rfl, (Box.new W1 _ _).next (below_new _ _), by
      have h := lvl_one (W1.alloc (.cells #[.int .i64 M] 3)) (0, x, A, N, cap) 105 (W1.heap.size + 1) (by simp) rfl
      rw [World.size_alloc, World.size_alloc]
      exact h, below_new2 _ _ _⟩
  rw [hW2]
  replace HX := Lib.hid (keeps_spots _ _ _ _ _ _ HX.out hb hb.size)
  replace b3 := b3.next hb
  replace b4 := b4.next hb
  replace B := B.trans (hb.mono B.size)
  obtain ⟨G5, hG5⟩ : ∃ G5, W1.heap.size = G5 := ⟨_, rfl⟩
  obtain ⟨lv0, hlv0⟩ : ∃ lv0, Value.slice (some ⟨W1.heap.size + 1, 0, none⟩) 1 1 = lv0 := ⟨_, rfl⟩
  rw [hlv0] at hL0
  rw [hG5] at b5 hlv0
  rw [hG5, hlv0]
  have hP0 : Parts W2.heap.size W2 [(0, x, A, N, cap)] := fun e he => by
    simp only [List.mem_singleton] at he
    subst he
    exact ⟨HX.out, by show (spo x).length ≤ _; omega⟩
  clear hb hW2 hG5 hlv0
  refine wpIn_loop (fun a wr => ∃ (k : Nat) (es : List El) (lv : Value) (Ds : List Nat) (u14 u15 u16 u17 u18 u19 u20 : Value),
    a = { tmps := #[.slice A N cap, .int .i64 h, undef, .pointer (some ⟨G3, 0, none⟩), .pointer (some ⟨G4, 0, none⟩), .pointer (some ⟨G5, 0, none⟩), lv, undef, undef, .slice A N cap, .int .i64 M, .slice A N cap, .agg #[.int .i64 0, .int .i64 0, .slice A N cap], lv0, u14, u15, u16, u17, u18, u19, u20, undef, undef, undef, undef, undef, undef, undef, undef, undef], defers := Ds.map mark } ∧
    k ≤ 21 ∧ Lvl k wr.heap.size wr es [lv] ∧ Parts wr.heap.size wr es ∧ ns es = levO x k ∧ (∀ j, j < k → ∀ e ∈ levO x j, fitsO x h j e.2 = false) ∧ Ds.Nodup ∧ (∀ D ∈ Ds, w.heap.size ≤ D ∧ D ≠ G4 ∧ wr.heap[D]? = some (.deferred (some []))) ∧
    Box wr G4 [.int .i64 0, .int .i64 0] ∧ Box wr G3 [.int .i64 h] ∧ Box wr G5 [.int .i64 M] ∧ Below w.heap.size w wr) (fun a wr => lvMeas (a.tmps.getD 6 undef) wr) ?start ?round
  case start => exact ⟨0, _, lv0, [], undef, undef, undef, undef, undef, undef, undef, rfl, Nat.zero_le _, hL0, hP0, rfl, (fun j hj => absurd hj (Nat.not_lt_zero _)), List.nodup_nil, (fun D hD => by cases hD), b4, b3, b5, B⟩
  case round =>
    clear b3 b4 b5 B hL0 hP0 HX
    rintro a wr ⟨k, es, lv, Ds, u14, u15, u16, u17, u18, u19, u20, rfl, hk21, hLv, hPt, hNs, hNF, hDn, hDs, b4, b3, b5, B⟩
    have HNs := Lib.hid hNs
    have HNF := Lib.hid hNF
    have HDn := Lib.hid hDn
    have HDs := Lib.hid hDs
    have HPt := Lib.hid hPt
    have HLv := Lib.hid hLv
    have hne : ∀ e ∈ es, k ≤ 20 ∧ e.1 < 2 ^ k := fun e he => lev_deep (x := x) (e := (e.1, e.2.1)) (by rw [← hNs]; exact List.mem_map.2 ⟨e, he, rfl⟩) hh
    have hln : es.length ≤ 2 ^ k := by
      have h1 := lev_len x k
      rw [← hNs] at h1
      simpa using h1
    have hp2 : 2 ^ k ≤ 2097152 := Nat.le_trans (Nat.pow_le_pow_right (by omega) hk21) (by decide)
    have hms := fun hh => meas_some hLv hh
    have hmn := fun hh => meas_none hLv hh
    obtain ⟨lA, lc, rfl, hlc, hcm, -⟩ := lvl_at hLv
    clear hNs hNF hDn hDs hPt hLv
    by_cases hes : es.length = 0
    · have hE : es = [] := List.eq_nil_of_length_eq_zero hes
      have hR : Hid (placeO x h = (0, 0)) := Lib.hid (place_nowhere (by omega) (by rw [← HNs.out, hE]; rfl) HNF.out)
      rw [hes]
      have q0 := b4.c 0 _ rfl
      have q1 := b4.c 1 _ rfl
      have f0 := b4.f 0 (by decide)
      have f1 := b4.f 1 (by decide)
      clear hms hmn hln hne hE
      gi_wp2
      refine leaves_marks Ds _ HDn.out (fun D hD => ?_) fun w' e1 e2 e3 e4 e5 => ?_
      · have hne := (HDs.out D hD).2.1
        rw [Below.heap_setCell _ _ _ _ hne, Below.heap_setCell _ _ _ _ hne]
        exact (HDs.out D hD).2.2
      · have b4' := (b4.two (.int .i64 0) (.int .i64 0)).keep (e5 G4 fun hD => (HDs.out G4 hD).2.1 rfl)
        have B4 := (B.setCell (p := ⟨G4, 0, none⟩) hwG4 (.int .i64 0)).setCell (p := ⟨G4, 1, none⟩) hwG4 (.int .i64 0)
        have B5 := B4.trans ⟨e1, e2, e3, Nat.le_of_eq e4.symm, fun j hj => e5 j fun hD => by have := (HDs.out j hD).1; omega⟩
        have q0 := b4'.c 0 _ rfl
        have q1 := b4'.c 1 _ rfl
        refine ⟨.agg #[.int .i64 0, .int .i64 0], ?_, by rw [hR.out], B5⟩
        simp [results, Try.f50, go_sem, q0, q1]
    · have hes2 : 0 < es.length := by omega
      obtain ⟨e0, he0⟩ : ∃ e0, e0 ∈ es := ⟨es[0], List.getElem_mem hes2⟩
      have hk20 := (hne e0 he0).1
      have hp3 : 2 ^ k ≤ 1048576 := Nat.le_trans (Nat.pow_le_pow_right (by omega) hk20) (by decide)
      have hgt : decide (0 < es.length) = true := decide_eq_true hes2
      have hgt2 : (0 : Int) < (es.length : Int) := by omega
      have HME := Lib.hid (hms hes)
      have hcm2 : lc ≤ 9223372036854775807 := Nat.le_trans hcm (by decide)
      obtain ⟨n, hn⟩ : ∃ n, es.length = n := ⟨_, rfl⟩
      have HNE := Lib.hid hne
      rw [hn] at hgt hgt2 HLv hlc HME
      rw [hn]
      clear hms hmn hcm hne he0 hes hes2 e0
      gi_wp2_with (refine ⟨trivial, ?_⟩; gi_at_call 69; refine (callsIn_wide.2 (backward_any _ _ _ _)).mono ?_; rintro e w' ⟨rfl, rfl⟩)
      obtain ⟨W3, hW3, bS, hb⟩ : ∃ W3, wr.alloc (.cells #[.slice lA n lc] 106) = W3 ∧ Box W3 wr.heap.size [.slice lA n lc] ∧ Below wr.heap.size wr W3 := ⟨_, rfl, Box.new wr _ _, below_new _ _⟩
      rw [hW3]
      have hG4 : G4 < W3.heap.size := (b4.next hb).lt
      have hG3 : G3 < W3.heap.size := (b3.next hb).lt
      have hG5 : G5 < W3.heap.size := (b5.next hb).lt
      replace b3 := b3.next hb
      replace b4 := b4.next hb
      replace b5 := b5.next hb
      replace B := B.trans (hb.mono B.size)
      obtain ⟨GS, hGS⟩ : ∃ GS, wr.heap.size = GS := ⟨_, rfl⟩
      have hLv3 : Lvl k W3.heap.size W3 es [.slice lA n lc] := keeps_lvl k _ _ _ _ _ _ HLv.out hb hb.size
      have hPt3 : Parts W3.heap.size W3 es := HPt.out.keep hb hb.size
      have HD3 : Hid (∀ D ∈ Ds, w.heap.size ≤ D ∧ D ≠ G4 ∧ D < W3.heap.size ∧ W3.heap[D]? = some (.deferred (some []))) := Lib.hid fun D hD => by
        obtain ⟨d1, d2, d3⟩ := HDs.out D hD
        have d4 := (Array.getElem?_eq_some_iff.1 d3).1
        exact ⟨d1, d2, Nat.lt_of_lt_of_le d4 hb.size, (hb.block D d4).trans d3⟩
      rw [hGS] at bS
      rw [hGS]
      clear hb hW3 hGS HLv HPt HDs
      obtain ⟨L, hL⟩ := sub_list (p := fun q : Int × El => Spots W3.heap.size W3 (spo q.2.2.1) [vH q.2.2.2] ∧ (spo q.2.2.1).length ≤ 1000000) (backs es) (fun q hq => hPt3 q.2 (by
        have hm : q.2 ∈ (backs es).map (·.2) := List.mem_map.2 ⟨q, hq, rfl⟩
        rw [backs_els] at hm
        simpa using hm))
      have hLL : L.length = es.length := by rw [← backs_len es, ← hL, List.length_map]
      have hLf : ∀ m, (h1 : m < L.length) → (h2 : es.length - 1 - m < es.length) → (L[m]).val = (((es.length - 1 - m : Nat) : Int), es[es.length - 1 - m]) := fun m h1 h2 => by
        have hb := backs_at es m (by rw [backs_len, ← hLL]; exact h1) h2
        rw [← hb]
        simp only [← hL, List.getElem_map]
      refine wpIn_rangeFunc_ownH rfl (by omega) (gf := 86) (lb := #[.pointer (some ⟨GS, 0, none⟩)]) rfl trivial (enters_of Try.func86 (by kernel_rfl) rfl)
        (backward_stops Subtype.val L (6 - 1) (by omega) GS W3.heap.size k es (.slice lA n lc) (by omega) hLL hLf W3 (Nat.le_refl _) bS.lt hLv3 (bS.c 0 _ rfl))
        belowK_t (belowK_b (Nat.le_refl _)) (Below.refl _ _) (fun _ => rfl)
        (fun pre W => (∀ z ∈ pre, fitsO x h k z.val.2.2.1 = false) ∧ Below W3.heap.size W3 W)
        (fun c pre W => (c = .ret ∧ ∃ pre0 z, pre = pre0 ++ [z] ∧ (∀ y ∈ pre0, fitsO x h k y.val.2.2.1 = false) ∧ fitsO x h k z.val.2.2.1 = true ∧ Box W G4 [.int .i64 (k : Int), .int .i64 (z.val.2.1 : Int)]) ∧ Turn G4 W3.heap.size W3 W)
        (OwnFrom.and (ownFrom_pure _ _) (ownFrom_below (Nat.le_refl _) (Nat.le_refl _)))
        (fun c s X Y row hs hg hr => by
          obtain ⟨⟨rfl, pre0, z, g1, g2, g3, g4⟩, g5⟩ := hs
          exact ⟨⟨rfl, pre0, z, g1, g2, g3, g4.keep (hg.block G4 g4.lt (fun e => by have := (hr G4 e.symm).1; omega))⟩, ownFrom_turn (Nat.le_refl _) (Nat.le_refl _) s X Y row g5 hg hr⟩)
        ⟨(fun z hz => by cases hz), Below.refl _ _⟩
        (fun z a' W => ∃ Bx, W3.heap.size ≤ Bx ∧ W.heap[Bx]? = some (.cells #[.int .i64 (k : Int), .int .i64 (z.val.2.1 : Int), .slice z.val.2.2.2.1 z.val.2.2.2.2.1 z.val.2.2.2.2.2] 105 (0, 0)) ∧ a' = { tmps := #[.slice A N cap, .int .i64 h, undef, .pointer (some ⟨G3, 0, none⟩), .pointer (some ⟨G4, 0, none⟩), .pointer (some ⟨G5, 0, none⟩), .slice lA n lc, undef, .pointer (some ⟨Bx, 0, none⟩), .slice A N cap, .int .i64 M, .slice A N cap, .agg #[.int .i64 0, .int .i64 0, .slice A N cap], lv0, .slice lA n lc, .int .i64 (n : Int), .bool true, u17, u18, .slice lA n lc, .func (.func 86) #[] #[.pointer (some ⟨GS, 0, none⟩)], .int .i64 z.val.1, vE k z.val.2, undef, undef, undef, undef, undef, undef, undef], defers := [] })
        (fun z a' _ X Y row hs hg hr => by obtain ⟨Bx, g1, g2, g3⟩ := hs; exact ⟨Bx, g1, cells_own Bx _ _ () X Y row g2 hg (fun r e => (hr r e).2), g3⟩)
        ?assign ?body ?done ?stop
      case assign =>
        rintro l pre z W K ⟨hno, hB⟩ hK
        gi_wp2
        exact hK _ _ ((KeepsOthers.alloc _ _).from _) ((Below.refl _ W).alloc hB.size _) ⟨hno, hB.alloc hB.size _⟩ ⟨W.heap.size, hB.size, World.alloc_heap_new W _, rfl⟩
      case body =>
        rintro l pre z a' W hl ⟨r, hr⟩ ⟨hno, hB⟩ ⟨Bx, hBx, bX, rfl⟩ hlt
        obtain ⟨hz1, hz2⟩ := z.property
        obtain ⟨t, ht⟩ : ∃ t, z.val = t := ⟨_, rfl⟩
        rw [ht] at hz1 hz2 bX
        rw [ht]
        obtain ⟨ix, i, q, xA, xn, xc⟩ := t
        have HT := Lib.hid ht
        simp only [vH] at hz1 hz2 bX
        have HZ := Lib.hid (keeps_spots _ _ _ _ _ _ hz1 hB hB.size)
        have HNO := Lib.hid hno
        have bx := box_cells bX
        have c3 := (hB.cell (p := ⟨G3, 0, none⟩) hG3).trans (b3.c 0 _ rfl)
        have c5 := (hB.cell (p := ⟨G5, 0, none⟩) hG5).trans (b5.c 0 _ rfl)
        have x0 := bx.c 0 _ rfl
        have x1 := bx.c 1 _ rfl
        have x2 := bx.c 2 _ rfl
        have HC := Lib.hid (fits_any (k : Int) (i : Int) h M q xA xn xc W HZ.out hz2 (by omega) (by have := htO_low x; omega))
        have hfe : decide (max (htO q) h < M - (k : Int)) = fitsO x h k q := by rw [← hM]; rfl
        rw [hfe] at HC
        have HW := Lib.hid hB
        have HBX := Lib.hid bx
        clear hno hz1 hz2 bX hfe hB ht bx
        cases hf : fitsO x h k q
        · have HF := Lib.hid hf
          rw [hf] at HC
          clear hf
          gi_wp2_with (refine ⟨trivial, ?_⟩; gi_at_call 70; refine (CallsIn.inRound l (callsIn_wide.2 HC.out)).mono ?_; rintro e w' ⟨rfl, hb⟩)
          refine ⟨keeps_from hb, hb.mono HW.out.size, fun y hy => ?_, HW.out.trans (hb.mono HW.out.size)⟩
          rcases List.mem_append.1 hy with hy | hy
          · exact HNO.out y hy
          · simp only [List.mem_singleton] at hy
            subst hy
            rw [HT.out]
            exact HF.out
        · have HF := Lib.hid hf
          rw [hf] at HC
          clear hf
          have W0sz := HW.out.size
          gi_wp2_with (refine ⟨trivial, ?_⟩; gi_at_call 70; refine (CallsIn.inRound l (callsIn_wide.2 HC.out)).mono ?_; rintro e w' ⟨rfl, hb⟩; have y0 := (hb.cell (p := ⟨Bx, 0, none⟩) HBX.out.lt).trans x0; have y1 := (hb.cell (p := ⟨Bx, 1, none⟩) HBX.out.lt).trans x1; have b4w := (b4.below HW.out hG4).below hb (Nat.lt_of_lt_of_le hG4 W0sz); have q0 := b4w.c 0 _ rfl; have q1 := b4w.c 1 _ rfl; have f0 := b4w.f 0 (by decide); have f1 := b4w.f 1 (by decide))
          exact ⟨((keeps_from hb).trans ((KeepsOthers.setCell _ _ _).from _)).trans ((KeepsOthers.setCell _ _ _).from _), ⟨⟨rfl, pre, z, rfl, HNO.out, by rw [HT.out]; exact HF.out, by rw [HT.out]; exact b4w.two _ _⟩, ((turn_of (HW.out.trans (hb.mono W0sz)) G4).set (Or.inr rfl) 0 _).set (Or.inr rfl) 1 _⟩⟩
      case done =>
        rintro D ys W hD rfl ⟨hno, hB⟩ hK
        have hDW := (Array.getElem?_eq_some_iff.1 hK).1
        have HNF2 : Hid (∀ j, j < k + 1 → ∀ e ∈ levO x j, fitsO x h j e.2 = false) := Lib.hid fun j hj e he => by
          by_cases hjk : j < k
          · exact HNF.out j hjk e he
          · have : j = k := by omega
            subst this
            rw [← HNs.out] at he
            obtain ⟨el, hel, rfl⟩ := List.mem_map.1 he
            have hm : el ∈ (backs es).map (·.2) := by rw [backs_els]; simpa using hel
            obtain ⟨p, hp, rfl⟩ := List.mem_map.1 hm
            rw [← hL] at hp
            obtain ⟨z, hz, rfl⟩ := List.mem_map.1 hp
            exact hno z hz
        have HDD := Lib.hid (deeper_any k es (.slice lA n lc) W (keeps_lvl k _ _ _ _ _ _ hLv3 hB hB.size) (hPt3.keep hB hB.size) (by omega) (by omega) (fun e he => (HNE.out e he).2))
        have HB := Lib.hid hB
        have HK := Lib.hid hK
        clear hno hB hK
        gi_wp2_with (refine ⟨trivial, ?_⟩; gi_at_call 68; refine (callsIn_wide.2 HDD.out).mono ?_; rintro e w' ⟨v', es', rfl, hLv', hPt', hns', hb'⟩)
        have hBW := HB.out.trans (hb'.mono HB.out.size)
        refine ⟨⟨k + 1, es', v', D :: Ds, _, _, _, _, _, _, _, rfl, by omega, hLv', hPt', by rw [hns', HNs.out]; rfl, HNF2.out, ?_, ?_, b4.below hBW hG4, b3.below hBW hG3, b5.below hBW hG5, B.trans (hBW.mono B.size)⟩, ?_⟩
        · refine List.nodup_cons.2 ⟨fun hm => ?_, HDn.out⟩
          have := (HD3.out D hm).2.2.1
          omega
        · intro E hE
          rcases List.mem_cons.1 hE with rfl | hE
          · exact ⟨by have := B.size; omega, by omega, (hb'.block _ hDW).trans HK.out⟩
          · obtain ⟨d1, d2, d3, d4⟩ := HD3.out E hE
            exact ⟨d1, d2, (hBW.block E d3).trans d4⟩
        · show lvMeas v' w' < lvMeas (.slice lA n lc) wr
          rw [HME.out]
          by_cases he : es'.length = 0
          · rw [meas_none hLv' he]; omega
          · rw [meas_some hLv' he]; omega
      case stop =>
        rintro D c pre W hD ⟨m, hm, hpre⟩ ⟨⟨rfl, pre0, z, g1, g2, g3, g4⟩, hT⟩ hK
        have hDW := (Array.getElem?_eq_some_iff.1 hK).1
        obtain ⟨rest, hrest⟩ : ∃ rest, L.drop m = rest := ⟨_, rfl⟩
        have e1 : L = pre0 ++ z :: rest := by
          have h := List.take_append_drop m L
          rw [← hpre, g1, hrest] at h
          rw [← h]
          simp
        have e2 : es.reverse = pre0.map (fun y => y.val.2) ++ z.val.2 :: rest.map (fun y => y.val.2) := by
          rw [← backs_els, ← hL, List.map_map, e1, List.map_append, List.map_cons]
          rfl
        have e3 : es = (rest.map (fun y => y.val.2)).reverse ++ z.val.2 :: (pre0.map (fun y => y.val.2)).reverse := by
          have := congrArg List.reverse e2
          simpa using this
        have e4 : levO x k = ns (rest.map (fun y => y.val.2)).reverse ++ (z.val.2.1, z.val.2.2.1) :: ns (pre0.map (fun y => y.val.2)).reverse := by
          rw [← HNs.out, e3]
          show List.map _ _ = _
          rw [List.map_append, List.map_cons]
        have HR : Hid (placeO x h = ((k : Int), (z.val.2.1 : Int))) := Lib.hid (by
          refine place_found h0 (by omega) e4 g3 (fun b hb => ?_) HNF.out
          obtain ⟨el, hel, rfl⟩ := List.mem_map.1 hb
          rw [List.mem_reverse] at hel
          obtain ⟨y, hy, rfl⟩ := List.mem_map.1 hel
          exact g2 y hy)
        clear e1 e2 e3 e4 hrest
        have HT := Lib.hid hT
        have HK := Lib.hid hK
        have HB4 := Lib.hid g4
        clear g1 g2 g3 g4 hpre hT hK
        gi_wp2
        refine leaves_marks (D :: Ds) _ (List.nodup_cons.2 ⟨fun hm => by have := (HD3.out D hm).2.2.1; omega, HDn.out⟩) (fun E hE => ?_) fun w' e1 e2 e3 e4 e5 => ?_
        · rcases List.mem_cons.1 hE with rfl | hE
          · exact HK.out
          · obtain ⟨d1, d2, d3, d4⟩ := HD3.out E hE
            exact (HT.out.block E d3 d2).trans d4
        · have hG4n : G4 ∉ D :: Ds := fun hE => by
            rcases List.mem_cons.1 hE with rfl | hE
            · omega
            · exact (HD3.out G4 hE).2.1 rfl
          have b4' := HB4.out.keep (e5 G4 hG4n)
          have B4 := B.trans (HT.out.below hwG4 B.size)
          have B5 := B4.trans ⟨e1, e2, e3, Nat.le_of_eq e4.symm, fun j hj => e5 j fun hE => by
            rcases List.mem_cons.1 hE with rfl | hE
            · have := B.size; omega
            · have := (HD3.out j hE).1; omega⟩
          have q0 := b4'.c 0 _ rfl
          have q1 := b4'.c 1 _ rfl
          refine ⟨.agg #[.int .i64 (k : Int), .int .i64 (z.val.2.1 : Int)], ?_, by rw [HR.out], B5⟩
          simp [results, Try.f50, go_sem, q0, q1]

end Go.Proofs.Ytkmlnglmecjmeaa
