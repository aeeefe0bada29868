/- Trees joined and copied: slices.Clone, Grow, Concat at spots; Leaf and Join of lodge/tree, leaf of the law. Condition: the slices read as spots, of at most a million together. -/
import Derived.Test.YtokhaldnakjiaaaTreeL
import Derived.Lib.AppendZeros
import Derived.Lib.SliceRun
namespace Go.Proofs.Ytokhaldnakjiaaa
open Go Go.RowKit
set_option linter.unusedVariables false

set_option maxRecDepth 100000 in
set_option maxHeartbeats 4000000 in
theorem cloneS_any (v : Value) (xs : List Sp) (w : World) (h : Spots w.heap.size w xs [v]) (hn : xs.length ≤ 1000000) :
    Calls Try.prog 33 #[v] w fun e W' => ∃ v', e = .returned v' ∧ Spots W'.heap.size W' xs [v'] ∧ Below w.heap.size w W' := by
  have q22 : ∀ (w : World) (a : Option Addr) (n c n' c' : Nat), (binOp .eql 24 (.slice a n c) (.slice none n' c')).run Try.prog w = .ok (.bool a.isNone) w := fun w a n c n' c' => Lib.run_eql_slice_nil w _ _ a n c n' c' Try.underlying24
  have HM := Lib.hid h
  obtain ⟨A, cap, rfl, hlc, hcm, _⟩ := spots_at h
  have hcm2 : cap ≤ 9223372036854775807 := Nat.le_trans hcm (by decide)
  cases A with
  | none =>
    obtain ⟨_, _, e, _, _, h0, _⟩ := h
    simp only [List.cons.injEq, Value.slice.injEq, and_true] at e
    obtain ⟨rfl, _, rfl⟩ := e
    have hc := h0 rfl
    subst hc
    have hx : xs = [] := List.eq_nil_of_length_eq_zero (by omega)
    subst hx
    go_enter Try.func33, Try.ntmps33
    go_wp2
    go_ret
    exact ⟨_, rfl, own_spots (World.ownsRow_nil _ w.heap.size _ _), Below.refl _ _⟩
  | some ad =>
    clear h hcm
    go_enter Try.func33, Try.ntmps33
    go_wp2_with (at_builtin; refine append_spots _ rfl _ _ rfl w.heap.size _ _ _ rfl (owns_empty w 52 3 (Nat.le_refl _)) w.heap.size _ xs rfl (keeps_spots _ _ _ _ _ _ HM.out (below_new w _) (Nat.le_refl _)) ?c1 ?c2 ?_)
    case c1 => omega
    case c2 => simp
    intro v' w' hown' hgr
    have B2 := ((Below.refl w.heap.size w).alloc (Nat.le_refl _) (.cells #[] 52)).grown hgr (by simp) (by intro k hk; simp [Value.ownBlock] at hk; omega)
    go_wp2
    go_ret
    exact ⟨_, rfl, own_spots hown', B2⟩

set_option maxRecDepth 100000 in
set_option maxHeartbeats 4000000 in
theorem growS_nil (n : Nat) (w : World) (hn : n ≤ 1000000) :
    Calls Try.prog 64 #[.slice none 0 0, .int .i64 (n : Int)] w fun e W' => ∃ v', e = .returned v' ∧ W'.ownsRow w.heap.size 52 3 v' 0 [] ∧ Below w.heap.size w W' := by
  obtain ⟨i0, hi, hz0, hz1, hz2⟩ := info_parts infoS
  rcases Nat.eq_zero_or_pos n with rfl | hp
  · go_enter Try.func64, Try.ntmps64
    go_wp2
    go_ret
    exact ⟨_, rfl, World.ownsRow_nil _ _ _ _, Below.refl _ _⟩
  · have hneg : ¬ ((n : Int) < 0) := by omega
    have hpos : (0 : Int) < (n : Int) := by omega
    have hsub : (n : Int) - 0 = (n : Int) := by omega
    have hd : decide (0 < n) = true := decide_eq_true hp
    have happ := Lib.run_append_nil_zeros (P := Try.prog) w 24 3 24 52 i0 _ .i64 .i64 Try.underlying24 Try.underlying3 hi hz0 n hp (by rw [hz1]; omega) (by omega) (by rw [hz2]; omega)
    generalize hcap : grownCap w n 0 52 = cap2 at happ
    have hcapge : n ≤ cap2 := by rw [← hcap]; exact grownCap_ge w _ 0 52
    have hcaple : cap2 ≤ maxLen := by rw [← hcap]; exact grownCap_le_maxLen w _ 0 52 (by unfold maxLen; omega)
    generalize hZ : (Builtin.zeroCells (Value.agg #[.bool false, .int .i64 0, .int .i64 0]).cells n ++ Builtin.zeroCells (Value.agg #[.bool false, .int .i64 0, .int .i64 0]).cells (cap2 - n)) = Z at happ
    have hZs : Z.size = cap2 * 3 := by rw [← hZ]; simp [size_zeroCells, Value.cells]; omega
    have hcap0 : ¬ cap2 = 0 := by omega
    clear hcap hZ
    go_enter Try.func64, Try.ntmps64
    go_wp2_with (at_builtin; refine Lib.wpList_append_run _ rfl _ _ _ _ rfl _ _ rfl rfl _ _ happ ?_)
    go_wp2
    go_ret
    refine ⟨_, rfl, ⟨rfl, .inr ⟨w.heap.size, cap2, Z, ?_, Nat.le_refl _, heap_alloc_new w.drew _, Nat.zero_le _, hcaple, hZs, by simp⟩⟩, ?_⟩
    · simp
    · exact ⟨rfl, rfl, rfl, by simp, fun k hk => Below.heap_alloc w _ k hk⟩

/-- A slice of slices of spots. -/
abbrev Lists : Rd (List (List Sp)) := SliceOf 1 Spots
theorem keeps_lists : Keeps Lists := keeps_slice keeps_spots
theorem lists_at {n : Nat} {w : World} {xss : List (List Sp)} {v : Value} (h : Lists n w xss [v]) :
    ∃ A cap, v = .slice A xss.length cap ∧ xss.length ≤ cap ∧ cap ≤ maxLen ∧ ∀ i, (hi : i < xss.length) → ∃ b off u, A = some ⟨b, off, none⟩ ∧ b < n ∧ w.cell? ⟨b, off + i, none⟩ = some u ∧ Spots n w xss[i] [u] := by
  obtain ⟨A, cap, e, h1, h2, _, h3⟩ := h
  simp only [List.cons.injEq, and_true] at e
  refine ⟨A, cap, e, h1, h2, fun i hi => ?_⟩
  obtain ⟨b, off, rfl, hb, hc⟩ := h3 (by omega)
  obtain ⟨es, hl, hcell, hr⟩ := hc i hi
  match es, hl with
  | [u], _ => exact ⟨b, off, u, rfl, hb, by have := hcell 0 (by omega); simpa using this, hr⟩
/-- Literals of two slices, and of three. -/
theorem lists_two {n : Nat} {w : World} {a b : List Sp} {u v : Value} (t : TypeId) (ha : Spots n w a [u]) (hb : Spots n w b [v]) (hn : n ≤ w.heap.size) : Lists (w.heap.size + 1) (w.alloc (.cells #[u, v] t)) [a, b] [.slice (some ⟨w.heap.size, 0, none⟩) 2 2] := by
  have B := below_new w (.cells #[u, v] t)
  have ka := keeps_spots n (w.heap.size + 1) w _ a _ ha (B.mono hn) (by omega)
  have kb := keeps_spots n (w.heap.size + 1) w _ b _ hb (B.mono hn) (by omega)
  refine ⟨_, 2, rfl, Nat.le_refl _, by decide, (fun h => by cases h), fun _ => ⟨_, 0, rfl, by omega, fun i hi => ?_⟩⟩
  match i, hi with
  | 0, _ => exact ⟨[u], rfl, fun j hj => by have : j = 0 := by omega
                                            subst this; simp, ka⟩
  | 1, _ => exact ⟨[v], rfl, fun j hj => by have : j = 0 := by omega
                                            subst this; simp, kb⟩
theorem lists_three {n : Nat} {w : World} {a b c : List Sp} {u v x : Value} (t : TypeId) (ha : Spots n w a [u]) (hb : Spots n w b [v]) (hc : Spots n w c [x]) (hn : n ≤ w.heap.size) : Lists (w.heap.size + 1) (w.alloc (.cells #[u, v, x] t)) [a, b, c] [.slice (some ⟨w.heap.size, 0, none⟩) 3 3] := by
  have B := below_new w (.cells #[u, v, x] t)
  have ka := keeps_spots n (w.heap.size + 1) w _ a _ ha (B.mono hn) (by omega)
  have kb := keeps_spots n (w.heap.size + 1) w _ b _ hb (B.mono hn) (by omega)
  have kc := keeps_spots n (w.heap.size + 1) w _ c _ hc (B.mono hn) (by omega)
  refine ⟨_, 3, rfl, Nat.le_refl _, by decide, (fun h => by cases h), fun _ => ⟨_, 0, rfl, by omega, fun i hi => ?_⟩⟩
  match i, hi with
  | 0, _ => exact ⟨[u], rfl, fun j hj => by have : j = 0 := by omega
                                            subst this; simp, ka⟩
  | 1, _ => exact ⟨[v], rfl, fun j hj => by have : j = 0 := by omega
                                            subst this; simp, kb⟩
  | 2, _ => exact ⟨[x], rfl, fun j hj => by have : j = 0 := by omega
                                            subst this; simp, kc⟩
/-- How long they are together. -/
def tot (xss : List (List Sp)) : Nat := (xss.map List.length).sum
theorem tot_succ (xss : List (List Sp)) (k : Nat) (h : k < xss.length) : tot (xss.take (k + 1)) = tot (xss.take k) + xss[k].length := by
  unfold tot
  rw [List.take_succ_eq_append_getElem h, List.map_append, List.sum_append]
  simp only [List.map_cons, List.map_nil, List.sum_cons, List.sum_nil]
  omega
theorem tot_take (xss : List (List Sp)) (k : Nat) : tot (xss.take k) ≤ tot xss := by
  unfold tot
  conv => rhs; rw [← List.take_append_drop k xss, List.map_append, List.sum_append]
  omega
theorem flat_take_succ (xss : List (List Sp)) (k : Nat) (h : k < xss.length) : (xss.take (k + 1)).flatten = (xss.take k).flatten ++ xss[k] := by
  rw [List.take_succ_eq_append_getElem h, List.flatten_append]
  simp only [List.flatten_cons, List.flatten_nil, List.append_nil]
theorem tot_flat (xss : List (List Sp)) : xss.flatten.length = tot xss := by
  unfold tot
  rw [List.length_flatten]

set_option maxRecDepth 100000 in
set_option maxHeartbeats 8000000 in
theorem concatS_any (v : Value) (xss : List (List Sp)) (w : World) (h : Lists w.heap.size w xss [v]) (hn : xss.length ≤ 1000000) (ht : tot xss ≤ 1000000) :
    Calls Try.prog 43 #[v] w fun e W' => ∃ v', e = .returned v' ∧ Spots W'.heap.size W' xss.flatten [v'] ∧ Below w.heap.size w W' := by
  obtain ⟨A, cap, rfl, hlc, hcm, hp⟩ := lists_at h
  have HP := Lib.hid hp
  have hcm2 : cap ≤ 9223372036854775807 := Nat.le_trans hcm (by decide)
  clear hp h hcm
  go_enter Try.func43, Try.ntmps43
  go_wp2_with fail
  go_loop [3, 11] (fun s i => ∃ k : Nat, k ≤ xss.length ∧ s = .int .i64 (tot (xss.take k)) ∧ i = .int .i64 k) (fun _ i => xss.length - (intOf i).toNat)
  case atStart => exact ⟨0, Nat.zero_le _, rfl, rfl⟩
  case round =>
    obtain ⟨k, hk, rfl, rfl⟩ := hrel
    have hle := tot_take xss k
    by_cases hlt : k < xss.length
    · have hd : decide (k < xss.length) = true := by simpa using hlt
      have hi : (k : Int) < (xss.length : Int) := by omega
      have hge : (0 : Int) ≤ (k : Int) := by omega
      obtain ⟨g, off, u, rfl, hbn, hc0, hu⟩ := HP.out k hlt
      obtain ⟨A', cap', rfl, hlc', hcm', _⟩ := spots_at hu
      have hle2 := tot_take xss (k + 1)
      have hs := tot_succ xss k hlt
      have HT := Lib.hid hs
      have hsum : IntKind.i64.wrap ((tot (xss.take k) : Int) + (xss[k].length : Int)) = ((tot (xss.take k) + xss[k].length : Nat) : Int) := by rw [IntKind.wrap_i64]; omega
      have hneg : ¬ ((tot (xss.take k) : Int) + (xss[k].length : Int) < 0) := by omega
      clear hu
      go_wp2
      go_round
      case rel => exact ⟨k + 1, by omega, by rw [HT.out]; go_num, by go_num⟩
      case measure => simp [intOf]; omega
    · have hd : decide (k < xss.length) = false := by simpa using hlt
      have hkk : xss.take k = xss := List.take_of_length_le (by omega)
      rw [hkk]
      go_wp2_with fail
      refine (growS_nil (tot xss) w ht).mono ?_
      rintro e W1 ⟨v1, rfl, hown, B1⟩
      go_wp2_with fail
      go_loopw [6, 27] (fun u i wr => ∃ k : Nat, k ≤ xss.length ∧ i = .int .i64 k ∧ wr.ownsRow w.heap.size 52 3 u (tot (xss.take k)) ((xss.take k).flatten.flatMap spC) ∧ Below w.heap.size w wr) (fun _ i _ => xss.length - (intOf i).toNat)
      case atStart => exact ⟨0, Nat.zero_le _, rfl, hown, B1⟩
      case round =>
        obtain ⟨k, hk, rfl, hown, B⟩ := hrel
        have hle := tot_take xss k
        by_cases hlt : k < xss.length
        · have hd : decide (k < xss.length) = true := by simpa using hlt
          have hi : (k : Int) < (xss.length : Int) := by omega
          have hge : (0 : Int) ≤ (k : Int) := by omega
          obtain ⟨g, off, u, rfl, hbn, hc0, hu⟩ := HP.out k hlt
          have k0 := (B.cell (p := ⟨g, off + k, none⟩) hbn).trans hc0
          have hle2 := tot_take xss (k + 1)
          have hs := tot_succ xss k hlt
          have HT := Lib.hid hs
          have HU := Lib.hid (keeps_spots _ _ _ _ _ _ hu B B.size)
          have HF := Lib.hid (flat_take_succ xss k hlt)
          clear hu hc0
          go_wp2_with (at_builtin; refine append_spots _ rfl _ _ rfl w.heap.size _ _ _ rfl hown _ _ _ rfl HU.out ?c1 ?c2 ?_)
          case c1 => omega
          case c2 => exact B.size
          intro v' w' hown' hgr
          have B2 := B.grown hgr B.size (fun k hk => (hown.lt k hk).1)
          go_wp2
          go_roundw
          case rel => exact ⟨k + 1, by omega, by go_num, by rw [HT.out, HF.out, List.flatMap_append]; exact hown', B2⟩
          case measure => simp [intOf]; omega
        · have hd : decide (k < xss.length) = false := by simpa using hlt
          have hkk : xss.take k = xss := List.take_of_length_le (by omega)
          rw [hkk, ← tot_flat] at hown
          obtain ⟨g', c', n', rfl⟩ : ∃ ao n' cap, _ = Value.slice ao n' cap := by
            rcases hown.2 with ⟨hv, _⟩ | ⟨g, cap, cur, hv, _⟩
            · exact ⟨_, _, _, hv⟩
            · exact ⟨_, _, _, hv⟩
          clear hkk
          go_wp2
          go_ret
          exact ⟨_, rfl, own_spots hown, B⟩

end Go.Proofs.Ytokhaldnakjiaaa
