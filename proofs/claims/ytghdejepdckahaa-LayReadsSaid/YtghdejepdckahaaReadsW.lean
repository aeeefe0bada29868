/- lodgelaw07.LayReads answers true, whatever text and whatever pairs come in, and leaves memory below as it was. No condition. -/
import Derived.Test.YtghdejepdckahaaAwake7
import Derived.Test.YtghdejepdckahaaLaySt
import Derived.Test.YtghdejepdckahaaOpens
import Derived.Test.YtghdejepdckahaaPhase
namespace Go.Proofs.Ytghdejepdckahaa
open Go.RowKit
set_option linter.unusedVariables false

/-- Pairs of integers that lie in memory. -/
abbrev Pairs : Rd (List (List Int)) := SliceOf 2 (Arr 2 1 (IsInt .i64))
theorem opens_pairs : Opens Try.prog 26 Pairs := opens_slice Try.underlying26 (by kernel_rfl) (by decide) (opens_arr Try.underlying32 (by kernel_rfl) (by kernel_rfl) (opens_int Try.underlying3))
theorem pairs_at {n : Nat} {w : World} {xs : List (List Int)} {A : Option Addr} {len cap : Nat} (h : Pairs n w xs [.slice A len cap]) :
    xs.length = len ∧ len ≤ cap ∧ cap ≤ maxLen ∧ ∀ i, i < len → ∃ b off p q, A = some ⟨b, off, none⟩ ∧ b < n ∧ w.cell? ⟨b, off + i * 2, none⟩ = some (.int .i64 p) ∧ w.cell? ⟨b, off + i * 2 + 1, none⟩ = some (.int .i64 q) := by
  obtain ⟨A', cap', e, h1, h2, _, h3⟩ := h
  simp only [List.cons.injEq, Value.slice.injEq, and_true] at e
  obtain ⟨rfl, rfl, rfl⟩ := e
  refine ⟨rfl, h1, h2, fun i hi => ?_⟩
  obtain ⟨b, off, rfl, hb, hc⟩ := h3 (by omega)
  obtain ⟨es, hl, hcell, hr⟩ := hc i hi
  obtain ⟨p, q, _, rfl, _, _⟩ := two_ints hr
  exact ⟨b, off, p, q, rfl, hb, hcell 0 (by omega), hcell 1 (by omega)⟩

set_option maxRecDepth 100000 in
set_option maxHeartbeats 8000000 in
theorem layReads_out (s : List UInt8) (A : Option Addr) (len cap : Nat) (w : World) (h : ¬ (s.length ≤ 500 ∧ len ≤ 50)) :
    Calls Try.prog 4 #[.string (tx s), .slice A len cap] w fun e w' => e = .returned (.bool true) ∧ Below w.heap.size w w' := by
  have hs : (tx s).size = s.length := tx_size s
  by_cases h0 : s.length ≤ 500
  · have d0 : decide (500 < (s.length : Int)) = false := decide_eq_false (by omega)
    have d1 : decide (50 < (len : Int)) = true := decide_eq_true (by omega)
    clear h
    go_enter Try.func4, Try.ntmps4
    go_wp2_with fail
    refine (awake7_any _).mono ?_
    rintro e W1 ⟨rfl, hB⟩
    go_wp2
    go_ret
    exact ⟨rfl, hB⟩
  · have d0 : decide (500 < (s.length : Int)) = true := decide_eq_true (by omega)
    clear h
    go_enter Try.func4, Try.ntmps4
    go_wp2_with fail
    refine (awake7_any _).mono ?_
    rintro e W1 ⟨rfl, hB⟩
    go_wp2
    go_ret
    exact ⟨rfl, hB⟩

set_option maxRecDepth 100000 in
set_option maxHeartbeats 16000000 in
theorem layReads_in (s : List UInt8) (A : Option Addr) (len cap : Nat) (xs : List (List Int)) (w : World) (hx : Pairs w.heap.size w xs [.slice A len cap]) (h0 : s.length ≤ 500) (h1 : len ≤ 50) :
    Calls Try.prog 4 #[.string (tx s), .slice A len cap] w fun e w' => e = .returned (.bool true) ∧ Below w.heap.size w w' := by
  have hs : (tx s).size = s.length := tx_size s
  have d0 : decide (500 < (s.length : Int)) = false := decide_eq_false (by omega)
  have d1 : decide (50 < (len : Int)) = false := decide_eq_false (by omega)
  obtain ⟨_, hlc, hcm, hp⟩ := pairs_at hx
  have HP := Lib.hid hp
  have hcm2 : cap ≤ 9223372036854775807 := hcm
  clear hp hx hcm
  go_enter Try.func4, Try.ntmps4
  go_wp2_with fail
  obtain ⟨W0, hW0, hA, hB, B⟩ : ∃ W0, (w.alloc (.cells #[.string (tx s), .bool false] 29)).alloc (.cells #[.string (tx s), .bool false] 31) = W0 ∧ At W0 w.heap.size 500 (some s) ∧ At W0 (w.heap.size + 1) 500 (some s) ∧ Below w.heap.size w W0 := by
    have ha := leftAt_new w (tx s) s 29 rfl
    have hba := below_new w (.cells #[.string (tx s), .bool false] 29)
    have hz : (w.alloc (.cells #[.string (tx s), .bool false] 29)).heap.size = w.heap.size + 1 := by simp
    have hb := leftAt_new (w.alloc (.cells #[.string (tx s), .bool false] 29)) (tx s) s 31 rfl
    have hbb := below_new (w.alloc (.cells #[.string (tx s), .bool false] 29)) (.cells #[.string (tx s), .bool false] 31)
    rw [hz] at hb
    exact ⟨_, rfl, ⟨ha.next hbb, h0⟩, ⟨hb, h0⟩, hba.trans (hbb.mono (by omega))⟩
  rw [hW0]
  clear hW0
  go_loopw [7] (fun i wr => ∃ (k : Nat) (st : Option (List UInt8)), k ≤ len ∧ i = .int .i64 k ∧ At wr w.heap.size 500 st ∧ At wr (w.heap.size + 1) 500 st ∧ Below w.heap.size w wr)
    (fun i _ => len - (intOf i).toNat)
  case atStart => exact ⟨0, some s, Nat.zero_le _, rfl, hA, hB, B⟩
  case round =>
    obtain ⟨k, st, hk, rfl, hA, hB, B⟩ := hrel
    by_cases hlt : k < len
    · have hd : decide (k < len) = true := by simpa using hlt
      have hi : (k : Int) < (len : Int) := by omega
      obtain ⟨b, off, p, q, rfl, hbn, hc0, hc1⟩ := HP.out k hlt
      have hk0 : wr.cell? ⟨b, off + k * 2, none⟩ = some (.int .i64 p) := (B.cell (p := ⟨b, off + k * 2, none⟩) hbn).trans hc0
      have hk1 : wr.cell? ⟨b, off + k * 2 + 1, none⟩ = some (.int .i64 q) := (B.cell (p := ⟨b, off + k * 2 + 1, none⟩) hbn).trans hc1
      have hne : b ≠ w.heap.size := by omega
      have hne1 : b ≠ w.heap.size + 1 := by omega
      have hge : (0 : Int) ≤ (k : Int) := by omega
      by_cases hp0' : p = 0
      · subst hp0'
        rcases hst : numSt st q with _ | r
        · go_wp2_with fail
          simp only [List.append]
          refine wp_region_plan (fun i => ([.slice (some ⟨b, off, none⟩) len cap, .int .i64 (k : Int), .pointer (some ⟨b, off + k * 2, none⟩), .pointer (some ⟨b, off + k * 2, none⟩), .int .i64 0, .bool true, .bool true, .pointer (some ⟨w.heap.size, 0, none⟩), .slice (some ⟨b, off, none⟩) len cap, .int .i64 (k : Int), .pointer (some ⟨b, off + k * 2, none⟩), .pointer (some ⟨b, off + k * 2 + 1, none⟩), .int .i64 q, .int .i64 (numOf st q), .pointer (some ⟨w.heap.size + 1, 0, none⟩), .slice (some ⟨b, off, none⟩) len cap, .int .i64 (k : Int), .pointer (some ⟨b, off + k * 2, none⟩), .pointer (some ⟨b, off + k * 2 + 1, none⟩), .int .i64 q, .int .i64 (numOf st q), .bool false, .bool false, .bool false, .slice (some ⟨b, off, none⟩) len cap, .int .i64 (k : Int), .pointer (some ⟨b, off + k * 2, none⟩), .pointer (some ⟨b, off + k * 2, none⟩), .int .i64 0, .bool false, .bool false, undef, undef, undef, undef, undef, undef, undef, undef, undef, undef, undef, undef, undef, undef, undef, .bool false, .bool false, .bool false, .pointer (some ⟨w.heap.size, 0, none⟩), .pointer (some ⟨w.heap.size, 0, none⟩), .pointer (some ⟨w.heap.size, 1, none⟩), .bool true, .pointer (some ⟨w.heap.size + 1, 0, none⟩), .pointer (some ⟨w.heap.size + 1, 0, none⟩), .pointer (some ⟨w.heap.size + 1, 1, none⟩), .bool true, .bool false, .bool false, .bool false, .pointer (some ⟨w.heap.size, 0, none⟩), .bool (doneOf none), .pointer (some ⟨w.heap.size + 1, 0, none⟩), .bool (doneOf none), .bool false, .bool false, .bool false, .pointer (some ⟨w.heap.size, 0, none⟩), .pointer (some ⟨w.heap.size, 0, none⟩), .pointer (some ⟨w.heap.size, 1, none⟩), .bool true, .bool false, .bool false, undef, undef, undef, undef, undef, undef, undef, undef, undef, .bool false, .bool false] : List Value).getD i undef) [13, 20, 61, 63] [0, 0, 0, 0, 0, 0, 0, 0, 0, 0, 0, 0, 0, 0, 0, 0, 0, 0, 0, 0, 1, 2, 2, 2, 2, 2, 2, 2, 2, 2, 2, 2, 2, 2, 2, 2, 2, 2, 2, 2, 2, 2, 2, 2, 2, 2, 2, 2, 2, 2, 2, 2, 2, 2, 2, 2, 2, 2, 2, 2, 2, 2, 2, 3, 4, 4, 4, 4, 4, 4, 4, 4, 4, 4, 4, 4, 4, 4, 4, 4, 4, 4, 4, 4] (fun ph w' => Below w.heap.size w w' ∧ At w' w.heap.size 500 (if 1 ≤ ph then none else st) ∧ At w' (w.heap.size + 1) 500 (if 2 ≤ ph then none else st)) (by kernel_rfl) (by kernel_rfl) ⟨B.drew, hA.keep rfl, hB.keep rfl⟩ ?_ ?_
          · refine Obs_of_ends (by kernel_rfl) ?_
            intro A hE
            refine ⟨?_, ?_, ?_, ?_, ?_, ?_, ?_, ?_, ?_, ?_, ?_, ?_, ?_, ?_, ?_, ?_, ?_, ?_, ?_, ?_, ?_, ?_, ?_, ?_, ?_, ?_, ?_, ?_, ?_, ?_, ?_, ?_, ?_, ?_, ?_, ?_, ?_, ?_, ?_, ?_, ?_, ?_, ?_, ?_, ?_, ?_, ?_, ?_, ?_, ?_, ?_, ?_, ?_, ?_, ?_, ?_, ?_, ?_, ?_, ?_, ?_, ?_, ?_, ?_, ?_, ?_, ?_, ?_, ?_, ?_, ?_, ?_, ?_, ?_, ?_, ?_, ?_, ?_, ?_, ?_, ?_, ?_, ?_, ?_, trivial⟩
            · exact ob_move _ rfl (want_none rfl) (by kernel_rfl) (eval_out hE (d := 1) (by kernel_rfl))
            · exact ob_move _ rfl (want_none rfl) (by kernel_rfl) (eval_out hE (d := 7) (by kernel_rfl))
            · refine ob_val (want_none rfl) (by kernel_rfl) (fun ph w' hp hm hw => ?_)
              have e29 : A.tmps[29]? = some (.slice (some ⟨b, off, none⟩) len cap) := hE.dst 0 _ 29 rfl rfl; have e30 : A.tmps[30]? = some (.int .i64 (k : Int)) := hE.dst 1 _ 30 rfl rfl; simp [execOp, e29, e30, hi, hge, go_sem]
            · refine ob_val (want_none rfl) (by kernel_rfl) (fun ph w' hp hm hw => ?_)
              have e31 : A.tmps[31]? = some (.pointer (some ⟨b, off + k * 2, none⟩)) := hE.dst 2 _ 31 rfl rfl; simp [execOp, e31, go_sem]
            · refine ob_val (want_none rfl) (by kernel_rfl) (fun ph w' hp hm hw => ?_)
              have hc := (hw.1.cell (p := ⟨b, off + k * 2, none⟩) hbn).trans hc0; have e32 : A.tmps[32]? = some (.pointer (some ⟨b, off + k * 2, none⟩)) := hE.dst 3 _ 32 rfl rfl; simp [execOp, e32, hc, go_sem]
            · refine ob_val (want_none rfl) (by kernel_rfl) (fun ph w' hp hm hw => ?_)
              have e33 : A.tmps[33]? = some (.int .i64 0) := hE.dst 4 _ 33 rfl rfl; simp [execOp, e33, go_sem]
            · exact ob_move _ rfl (want_none rfl) (by kernel_rfl) (eval_dst hE (j := 5) rfl rfl)
            · exact ob_move _ rfl (want_is hE (g := 6) (x := true) (b := true) rfl rfl rfl rfl) (by kernel_rfl) (eval_out hE (d := 5) (by kernel_rfl))
            · exact ob_move _ rfl (want_is hE (g := 6) (x := true) (b := true) rfl rfl rfl rfl) (by kernel_rfl) (eval_out hE (d := 1) (by kernel_rfl))
            · exact ob_move _ rfl (want_is hE (g := 6) (x := true) (b := true) rfl rfl rfl rfl) (by kernel_rfl) (eval_out hE (d := 7) (by kernel_rfl))
            · refine ob_val (want_is hE (g := 6) (x := true) (b := true) rfl rfl rfl rfl) (by kernel_rfl) (fun ph w' hp hm hw => ?_)
              have e37 : A.tmps[37]? = some (.slice (some ⟨b, off, none⟩) len cap) := hE.dst 8 _ 37 rfl rfl; have e38 : A.tmps[38]? = some (.int .i64 (k : Int)) := hE.dst 9 _ 38 rfl rfl; simp [execOp, e37, e38, hi, hge, go_sem]
            · refine ob_val (want_is hE (g := 6) (x := true) (b := true) rfl rfl rfl rfl) (by kernel_rfl) (fun ph w' hp hm hw => ?_)
              have e39 : A.tmps[39]? = some (.pointer (some ⟨b, off + k * 2, none⟩)) := hE.dst 10 _ 39 rfl rfl; simp [execOp, e39, go_sem]
            · refine ob_val (want_is hE (g := 6) (x := true) (b := true) rfl rfl rfl rfl) (by kernel_rfl) (fun ph w' hp hm hw => ?_)
              have hc := (hw.1.cell (p := ⟨b, off + k * 2 + 1, none⟩) hbn).trans hc1; have e40 : A.tmps[40]? = some (.pointer (some ⟨b, off + k * 2 + 1, none⟩)) := hE.dst 11 _ 40 rfl rfl; simp [execOp, e40, hc, go_sem]
            · refine ob_call (q := 0) (f := 12) (args := #[.pointer (some ⟨w.heap.size, 0, none⟩), .int .i64 q]) (want_is hE (g := 6) (x := true) (b := true) rfl rfl rfl rfl) (by kernel_rfl) (fun w' => by have e36 : A.tmps[36]? = some (.pointer (some ⟨w.heap.size, 0, none⟩)) := hE.dst 7 _ 36 rfl rfl; have e41 : A.tmps[41]? = some (.int .i64 q) := hE.dst 12 _ 41 rfl rfl; simp [e36, e41, go_sem]) ?_
              rintro w' ⟨hb', ha', hb2⟩
              refine (leftNum_st w.heap.size 500 st q w' ha' (by omega)).mono ?_
              rintro e w2 ⟨rfl, h1, h2⟩
              exact ⟨rfl, hb'.trans (h2.below (Nat.le_refl _)), hst ▸ h1, hb2.only h2 (by omega)⟩
            · exact ob_move _ rfl (want_is hE (g := 6) (x := true) (b := true) rfl rfl rfl rfl) (by kernel_rfl) (eval_out hE (d := 6) (by kernel_rfl))
            · exact ob_move _ rfl (want_is hE (g := 6) (x := true) (b := true) rfl rfl rfl rfl) (by kernel_rfl) (eval_out hE (d := 1) (by kernel_rfl))
            · exact ob_move _ rfl (want_is hE (g := 6) (x := true) (b := true) rfl rfl rfl rfl) (by kernel_rfl) (eval_out hE (d := 7) (by kernel_rfl))
            · refine ob_val (want_is hE (g := 6) (x := true) (b := true) rfl rfl rfl rfl) (by kernel_rfl) (fun ph w' hp hm hw => ?_)
              have e44 : A.tmps[44]? = some (.slice (some ⟨b, off, none⟩) len cap) := hE.dst 15 _ 44 rfl rfl; have e45 : A.tmps[45]? = some (.int .i64 (k : Int)) := hE.dst 16 _ 45 rfl rfl; simp [execOp, e44, e45, hi, hge, go_sem]
            · refine ob_val (want_is hE (g := 6) (x := true) (b := true) rfl rfl rfl rfl) (by kernel_rfl) (fun ph w' hp hm hw => ?_)
              have e46 : A.tmps[46]? = some (.pointer (some ⟨b, off + k * 2, none⟩)) := hE.dst 17 _ 46 rfl rfl; simp [execOp, e46, go_sem]
            · refine ob_val (want_is hE (g := 6) (x := true) (b := true) rfl rfl rfl rfl) (by kernel_rfl) (fun ph w' hp hm hw => ?_)
              have hc := (hw.1.cell (p := ⟨b, off + k * 2 + 1, none⟩) hbn).trans hc1; have e47 : A.tmps[47]? = some (.pointer (some ⟨b, off + k * 2 + 1, none⟩)) := hE.dst 18 _ 47 rfl rfl; simp [execOp, e47, hc, go_sem]
            · refine ob_call (q := 1) (f := 13) (args := #[.pointer (some ⟨w.heap.size + 1, 0, none⟩), .int .i64 q]) (want_is hE (g := 6) (x := true) (b := true) rfl rfl rfl rfl) (by kernel_rfl) (fun w' => by have e43 : A.tmps[43]? = some (.pointer (some ⟨w.heap.size + 1, 0, none⟩)) := hE.dst 14 _ 43 rfl rfl; have e48 : A.tmps[48]? = some (.int .i64 q) := hE.dst 19 _ 48 rfl rfl; simp [e43, e48, go_sem]) ?_
              rintro w' ⟨hb', ha', hb2⟩
              refine (rleftNum_st (w.heap.size + 1) 500 st q w' hb2 (by omega)).mono ?_
              rintro e w2 ⟨rfl, h1, h2⟩
              exact ⟨rfl, hb'.trans (h2.below (by omega)), ha'.only h2 (by omega), hst ▸ h1⟩
            · refine ob_val (want_is hE (g := 6) (x := true) (b := true) rfl rfl rfl rfl) (by kernel_rfl) (fun ph w' hp hm hw => ?_)
              have e42 : A.tmps[42]? = some (.int .i64 (numOf st q)) := hE.dst 13 _ 42 rfl rfl; have e49 : A.tmps[49]? = some (.int .i64 (numOf st q)) := hE.dst 20 _ 49 rfl rfl; simp [execOp, e42, e49, go_sem]
            · refine ob_val (want_none rfl) (by kernel_rfl) (fun ph w' hp hm hw => ?_)
              have e35 : A.tmps[35]? = some (.bool true) := hE.dst 6 _ 35 rfl rfl; have e50 : A.tmps[50]? = some (.bool false) := hE.dst 21 _ 50 rfl rfl; simp [execOp, e35, e50, go_sem]
            · exact ob_move _ rfl (want_none rfl) (by kernel_rfl) (eval_dst hE (j := 22) rfl rfl)
            · exact ob_move _ rfl (want_is hE (g := 23) (x := false) (b := false) rfl rfl rfl rfl) (by kernel_rfl) (eval_out hE (d := 1) (by kernel_rfl))
            · exact ob_move _ rfl (want_is hE (g := 23) (x := false) (b := false) rfl rfl rfl rfl) (by kernel_rfl) (eval_out hE (d := 7) (by kernel_rfl))
            · refine ob_val (want_is hE (g := 23) (x := false) (b := false) rfl rfl rfl rfl) (by kernel_rfl) (fun ph w' hp hm hw => ?_)
              have e53 : A.tmps[53]? = some (.slice (some ⟨b, off, none⟩) len cap) := hE.dst 24 _ 53 rfl rfl; have e54 : A.tmps[54]? = some (.int .i64 (k : Int)) := hE.dst 25 _ 54 rfl rfl; simp [execOp, e53, e54, hi, hge, go_sem]
            · refine ob_val (want_is hE (g := 23) (x := false) (b := false) rfl rfl rfl rfl) (by kernel_rfl) (fun ph w' hp hm hw => ?_)
              have e55 : A.tmps[55]? = some (.pointer (some ⟨b, off + k * 2, none⟩)) := hE.dst 26 _ 55 rfl rfl; simp [execOp, e55, go_sem]
            · refine ob_val (want_is hE (g := 23) (x := false) (b := false) rfl rfl rfl rfl) (by kernel_rfl) (fun ph w' hp hm hw => ?_)
              have hc := (hw.1.cell (p := ⟨b, off + k * 2, none⟩) hbn).trans hc0; have e56 : A.tmps[56]? = some (.pointer (some ⟨b, off + k * 2, none⟩)) := hE.dst 27 _ 56 rfl rfl; simp [execOp, e56, hc, go_sem]
            · refine ob_val (want_is hE (g := 23) (x := false) (b := false) rfl rfl rfl rfl) (by kernel_rfl) (fun ph w' hp hm hw => ?_)
              have e57 : A.tmps[57]? = some (.int .i64 0) := hE.dst 28 _ 57 rfl rfl; simp [execOp, e57, go_sem]
            · exact ob_move _ rfl (want_is hE (g := 23) (x := false) (b := false) rfl rfl rfl rfl) (by kernel_rfl) (eval_dst hE (j := 29) rfl rfl)
            · exact ob_skip (want_is hE (g := 30) (x := false) (b := true) rfl rfl rfl rfl) (by kernel_rfl) rfl
            · exact ob_skip (want_is hE (g := 30) (x := false) (b := true) rfl rfl rfl rfl) (by kernel_rfl) rfl
            · exact ob_skip (want_is hE (g := 30) (x := false) (b := true) rfl rfl rfl rfl) (by kernel_rfl) rfl
            · exact ob_skip (want_is hE (g := 30) (x := false) (b := true) rfl rfl rfl rfl) (by kernel_rfl) rfl
            · exact ob_skip (want_is hE (g := 30) (x := false) (b := true) rfl rfl rfl rfl) (by kernel_rfl) rfl
            · exact ob_skip (want_is hE (g := 30) (x := false) (b := true) rfl rfl rfl rfl) (by kernel_rfl) rfl
            · exact ob_skip (want_is hE (g := 30) (x := false) (b := true) rfl rfl rfl rfl) (by kernel_rfl) rfl
            · exact ob_skip (want_is hE (g := 30) (x := false) (b := true) rfl rfl rfl rfl) (by kernel_rfl) rfl
            · exact ob_skip (want_is hE (g := 30) (x := false) (b := true) rfl rfl rfl rfl) (by kernel_rfl) rfl
            · exact ob_skip (want_is hE (g := 30) (x := false) (b := true) rfl rfl rfl rfl) (by kernel_rfl) rfl
            · exact ob_skip (want_is hE (g := 30) (x := false) (b := true) rfl rfl rfl rfl) (by kernel_rfl) rfl
            · exact ob_skip (want_is hE (g := 30) (x := false) (b := true) rfl rfl rfl rfl) (by kernel_rfl) rfl
            · exact ob_skip (want_is hE (g := 30) (x := false) (b := true) rfl rfl rfl rfl) (by kernel_rfl) rfl
            · exact ob_skip (want_is hE (g := 30) (x := false) (b := true) rfl rfl rfl rfl) (by kernel_rfl) rfl
            · exact ob_skip (want_is hE (g := 30) (x := false) (b := true) rfl rfl rfl rfl) (by kernel_rfl) rfl
            · refine ob_val (want_is hE (g := 23) (x := false) (b := false) rfl rfl rfl rfl) (by kernel_rfl) (fun ph w' hp hm hw => ?_)
              have e59 : A.tmps[59]? = some (.bool false) := hE.dst 30 _ 59 rfl rfl; have e74 : A.tmps[74]? = some (undef) := hE.dst 45 _ 74 rfl rfl; simp [execOp, e59, e74, go_sem]
            · refine ob_val (want_none rfl) (by kernel_rfl) (fun ph w' hp hm hw => ?_)
              have e52 : A.tmps[52]? = some (.bool false) := hE.dst 23 _ 52 rfl rfl; have e75 : A.tmps[75]? = some (.bool false) := hE.dst 46 _ 75 rfl rfl; simp [execOp, e52, e75, go_sem]
            · exact ob_move _ rfl (want_none rfl) (by kernel_rfl) (eval_dst hE (j := 47) rfl rfl)
            · exact ob_move _ rfl (want_is hE (g := 48) (x := false) (b := false) rfl rfl rfl rfl) (by kernel_rfl) (eval_out hE (d := 5) (by kernel_rfl))
            · refine ob_val (want_is hE (g := 48) (x := false) (b := false) rfl rfl rfl rfl) (by kernel_rfl) (fun ph w' hp hm hw => ?_)
              have e78 : A.tmps[78]? = some (.pointer (some ⟨w.heap.size, 0, none⟩)) := hE.dst 49 _ 78 rfl rfl; simp [execOp, e78, go_sem]
            · refine ob_val (want_is hE (g := 48) (x := false) (b := false) rfl rfl rfl rfl) (by kernel_rfl) (fun ph w' hp hm hw => ?_)
              have e79 : A.tmps[79]? = some (.pointer (some ⟨w.heap.size, 0, none⟩)) := hE.dst 50 _ 79 rfl rfl; simp [execOp, e79, go_sem]
            · refine ob_val (want_is hE (g := 48) (x := false) (b := false) rfl rfl rfl rfl) (by kernel_rfl) (fun ph w' hp hm hw => ?_)
              have hat : At w' w.heap.size 500 none := by have h2 := hw.2.1; rwa [if_pos (show 1 ≤ ph from Nat.le_trans (by decide) hp)] at h2
              have hc := (BadAt.cell hat); have e80 : A.tmps[80]? = some (.pointer (some ⟨w.heap.size, 1, none⟩)) := hE.dst 51 _ 80 rfl rfl; simp [execOp, e80, hc, go_sem]
            · exact ob_move _ rfl (want_is hE (g := 48) (x := false) (b := false) rfl rfl rfl rfl) (by kernel_rfl) (eval_out hE (d := 6) (by kernel_rfl))
            · refine ob_val (want_is hE (g := 48) (x := false) (b := false) rfl rfl rfl rfl) (by kernel_rfl) (fun ph w' hp hm hw => ?_)
              have e82 : A.tmps[82]? = some (.pointer (some ⟨w.heap.size + 1, 0, none⟩)) := hE.dst 53 _ 82 rfl rfl; simp [execOp, e82, go_sem]
            · refine ob_val (want_is hE (g := 48) (x := false) (b := false) rfl rfl rfl rfl) (by kernel_rfl) (fun ph w' hp hm hw => ?_)
              have e83 : A.tmps[83]? = some (.pointer (some ⟨w.heap.size + 1, 0, none⟩)) := hE.dst 54 _ 83 rfl rfl; simp [execOp, e83, go_sem]
            · refine ob_val (want_is hE (g := 48) (x := false) (b := false) rfl rfl rfl rfl) (by kernel_rfl) (fun ph w' hp hm hw => ?_)
              have hat : At w' (w.heap.size + 1) 500 none := by have h2 := hw.2.2; rwa [if_pos (show 2 ≤ ph from Nat.le_trans (by decide) hp)] at h2
              have hc := (BadAt.cell hat); have e84 : A.tmps[84]? = some (.pointer (some ⟨w.heap.size + 1, 1, none⟩)) := hE.dst 55 _ 84 rfl rfl; simp [execOp, e84, hc, go_sem]
            · refine ob_val (want_is hE (g := 48) (x := false) (b := false) rfl rfl rfl rfl) (by kernel_rfl) (fun ph w' hp hm hw => ?_)
              have e81 : A.tmps[81]? = some (.bool true) := hE.dst 52 _ 81 rfl rfl; have e85 : A.tmps[85]? = some (.bool true) := hE.dst 56 _ 85 rfl rfl; simp [execOp, e81, e85, go_sem]
            · refine ob_val (want_none rfl) (by kernel_rfl) (fun ph w' hp hm hw => ?_)
              have e77 : A.tmps[77]? = some (.bool false) := hE.dst 48 _ 77 rfl rfl; have e86 : A.tmps[86]? = some (.bool false) := hE.dst 57 _ 86 rfl rfl; simp [execOp, e77, e86, go_sem]
            · exact ob_move _ rfl (want_none rfl) (by kernel_rfl) (eval_dst hE (j := 58) rfl rfl)
            · exact ob_move _ rfl (want_is hE (g := 59) (x := false) (b := false) rfl rfl rfl rfl) (by kernel_rfl) (eval_out hE (d := 5) (by kernel_rfl))
            · refine ob_call (q := 2) (f := 16) (args := #[.pointer (some ⟨w.heap.size, 0, none⟩)]) (want_is hE (g := 59) (x := false) (b := false) rfl rfl rfl rfl) (by kernel_rfl) (fun w' => by have e89 : A.tmps[89]? = some (.pointer (some ⟨w.heap.size, 0, none⟩)) := hE.dst 60 _ 89 rfl rfl; simp [e89, go_sem]) ?_
              rintro w' ⟨hb', ha', hb2⟩
              refine (leftDone_st w.heap.size 500 none w' ha').mono ?_
              rintro e w2 ⟨rfl, rfl⟩
              exact ⟨rfl, hb', ha', hb2⟩
            · exact ob_move _ rfl (want_is hE (g := 59) (x := false) (b := false) rfl rfl rfl rfl) (by kernel_rfl) (eval_out hE (d := 6) (by kernel_rfl))
            · refine ob_call (q := 3) (f := 17) (args := #[.pointer (some ⟨w.heap.size + 1, 0, none⟩)]) (want_is hE (g := 59) (x := false) (b := false) rfl rfl rfl rfl) (by kernel_rfl) (fun w' => by have e91 : A.tmps[91]? = some (.pointer (some ⟨w.heap.size + 1, 0, none⟩)) := hE.dst 62 _ 91 rfl rfl; simp [e91, go_sem]) ?_
              rintro w' ⟨hb', ha', hb2⟩
              refine (rleftDone_st (w.heap.size + 1) 500 none w' hb2).mono ?_
              rintro e w2 ⟨rfl, rfl⟩
              exact ⟨rfl, hb', ha', hb2⟩
            · refine ob_val (want_is hE (g := 59) (x := false) (b := false) rfl rfl rfl rfl) (by kernel_rfl) (fun ph w' hp hm hw => ?_)
              have e90 : A.tmps[90]? = some (.bool (doneOf none)) := hE.dst 61 _ 90 rfl rfl; have e92 : A.tmps[92]? = some (.bool (doneOf none)) := hE.dst 63 _ 92 rfl rfl; simp [execOp, e90, e92, go_sem]
            · refine ob_val (want_none rfl) (by kernel_rfl) (fun ph w' hp hm hw => ?_)
              have e88 : A.tmps[88]? = some (.bool false) := hE.dst 59 _ 88 rfl rfl; have e93 : A.tmps[93]? = some (.bool false) := hE.dst 64 _ 93 rfl rfl; simp [execOp, e88, e93, go_sem]
            · exact ob_move _ rfl (want_none rfl) (by kernel_rfl) (eval_dst hE (j := 65) rfl rfl)
            · exact ob_move _ rfl (want_is hE (g := 66) (x := false) (b := false) rfl rfl rfl rfl) (by kernel_rfl) (eval_out hE (d := 5) (by kernel_rfl))
            · refine ob_val (want_is hE (g := 66) (x := false) (b := false) rfl rfl rfl rfl) (by kernel_rfl) (fun ph w' hp hm hw => ?_)
              have e96 : A.tmps[96]? = some (.pointer (some ⟨w.heap.size, 0, none⟩)) := hE.dst 67 _ 96 rfl rfl; simp [execOp, e96, go_sem]
            · refine ob_val (want_is hE (g := 66) (x := false) (b := false) rfl rfl rfl rfl) (by kernel_rfl) (fun ph w' hp hm hw => ?_)
              have e97 : A.tmps[97]? = some (.pointer (some ⟨w.heap.size, 0, none⟩)) := hE.dst 68 _ 97 rfl rfl; simp [execOp, e97, go_sem]
            · refine ob_val (want_is hE (g := 66) (x := false) (b := false) rfl rfl rfl rfl) (by kernel_rfl) (fun ph w' hp hm hw => ?_)
              have hat : At w' w.heap.size 500 none := by have h2 := hw.2.1; rwa [if_pos (show 1 ≤ ph from Nat.le_trans (by decide) hp)] at h2
              have hc := (BadAt.cell hat); have e98 : A.tmps[98]? = some (.pointer (some ⟨w.heap.size, 1, none⟩)) := hE.dst 69 _ 98 rfl rfl; simp [execOp, e98, hc, go_sem]
            · refine ob_val (want_is hE (g := 66) (x := false) (b := false) rfl rfl rfl rfl) (by kernel_rfl) (fun ph w' hp hm hw => ?_)
              have e99 : A.tmps[99]? = some (.bool true) := hE.dst 70 _ 99 rfl rfl; simp [execOp, e99, go_sem]
            · exact ob_move _ rfl (want_is hE (g := 66) (x := false) (b := false) rfl rfl rfl rfl) (by kernel_rfl) (eval_dst hE (j := 71) rfl rfl)
            · exact ob_skip (want_is hE (g := 72) (x := false) (b := true) rfl rfl rfl rfl) (by kernel_rfl) rfl
            · exact ob_skip (want_is hE (g := 72) (x := false) (b := true) rfl rfl rfl rfl) (by kernel_rfl) rfl
            · exact ob_skip (want_is hE (g := 72) (x := false) (b := true) rfl rfl rfl rfl) (by kernel_rfl) rfl
            · exact ob_skip (want_is hE (g := 72) (x := false) (b := true) rfl rfl rfl rfl) (by kernel_rfl) rfl
            · exact ob_skip (want_is hE (g := 72) (x := false) (b := true) rfl rfl rfl rfl) (by kernel_rfl) rfl
            · exact ob_skip (want_is hE (g := 72) (x := false) (b := true) rfl rfl rfl rfl) (by kernel_rfl) rfl
            · exact ob_skip (want_is hE (g := 72) (x := false) (b := true) rfl rfl rfl rfl) (by kernel_rfl) rfl
            · exact ob_skip (want_is hE (g := 72) (x := false) (b := true) rfl rfl rfl rfl) (by kernel_rfl) rfl
            · exact ob_skip (want_is hE (g := 72) (x := false) (b := true) rfl rfl rfl rfl) (by kernel_rfl) rfl
            · refine ob_val (want_is hE (g := 66) (x := false) (b := false) rfl rfl rfl rfl) (by kernel_rfl) (fun ph w' hp hm hw => ?_)
              have e101 : A.tmps[101]? = some (.bool false) := hE.dst 72 _ 101 rfl rfl; have e110 : A.tmps[110]? = some (undef) := hE.dst 81 _ 110 rfl rfl; simp [execOp, e101, e110, go_sem]
            · refine ob_val (want_none rfl) (by kernel_rfl) (fun ph w' hp hm hw => ?_)
              have e95 : A.tmps[95]? = some (.bool false) := hE.dst 66 _ 95 rfl rfl; have e111 : A.tmps[111]? = some (.bool false) := hE.dst 82 _ 111 rfl rfl; simp [execOp, e95, e111, go_sem]
          · intro w' ⟨hb', ha', hb2⟩
            simp only [laid, Act.put, List.setIfInBounds_toArray, List.set_cons_succ, List.set_cons_zero, List.getD_cons_succ, List.getD_cons_zero, Nat.zero_add, Nat.reduceAdd]
            go_wp2_with fail
            exact ⟨⟨k + 1, none, by omega, by go_num, ha', hb2, hb'⟩, by simp [intOf]; omega⟩
        · go_wp2_with fail
          simp only [List.append]
          refine wp_region_plan (fun i => ([.slice (some ⟨b, off, none⟩) len cap, .int .i64 (k : Int), .pointer (some ⟨b, off + k * 2, none⟩), .pointer (some ⟨b, off + k * 2, none⟩), .int .i64 0, .bool true, .bool true, .pointer (some ⟨w.heap.size, 0, none⟩), .slice (some ⟨b, off, none⟩) len cap, .int .i64 (k : Int), .pointer (some ⟨b, off + k * 2, none⟩), .pointer (some ⟨b, off + k * 2 + 1, none⟩), .int .i64 q, .int .i64 (numOf st q), .pointer (some ⟨w.heap.size + 1, 0, none⟩), .slice (some ⟨b, off, none⟩) len cap, .int .i64 (k : Int), .pointer (some ⟨b, off + k * 2, none⟩), .pointer (some ⟨b, off + k * 2 + 1, none⟩), .int .i64 q, .int .i64 (numOf st q), .bool false, .bool false, .bool false, .slice (some ⟨b, off, none⟩) len cap, .int .i64 (k : Int), .pointer (some ⟨b, off + k * 2, none⟩), .pointer (some ⟨b, off + k * 2, none⟩), .int .i64 0, .bool false, .bool false, undef, undef, undef, undef, undef, undef, undef, undef, undef, undef, undef, undef, undef, undef, undef, .bool false, .bool false, .bool false, .pointer (some ⟨w.heap.size, 0, none⟩), .pointer (some ⟨w.heap.size, 0, none⟩), .pointer (some ⟨w.heap.size, 1, none⟩), .bool false, .pointer (some ⟨w.heap.size + 1, 0, none⟩), .pointer (some ⟨w.heap.size + 1, 0, none⟩), .pointer (some ⟨w.heap.size + 1, 1, none⟩), .bool false, .bool false, .bool false, .bool false, .pointer (some ⟨w.heap.size, 0, none⟩), .bool (doneOf (some r)), .pointer (some ⟨w.heap.size + 1, 0, none⟩), .bool (doneOf (some r)), .bool false, .bool false, .bool false, .pointer (some ⟨w.heap.size, 0, none⟩), .pointer (some ⟨w.heap.size, 0, none⟩), .pointer (some ⟨w.heap.size, 1, none⟩), .bool false, .bool true, .bool true, .pointer (some ⟨w.heap.size, 0, none⟩), .pointer (some ⟨w.heap.size, 0, none⟩), .pointer (some ⟨w.heap.size, 0, none⟩), .string (tx r), .pointer (some ⟨w.heap.size + 1, 0, none⟩), .pointer (some ⟨w.heap.size + 1, 0, none⟩), .pointer (some ⟨w.heap.size + 1, 0, none⟩), .string (tx r), .bool false, .bool false, .bool false] : List Value).getD i undef) [13, 20, 61, 63] [0, 0, 0, 0, 0, 0, 0, 0, 0, 0, 0, 0, 0, 0, 0, 0, 0, 0, 0, 0, 1, 2, 2, 2, 2, 2, 2, 2, 2, 2, 2, 2, 2, 2, 2, 2, 2, 2, 2, 2, 2, 2, 2, 2, 2, 2, 2, 2, 2, 2, 2, 2, 2, 2, 2, 2, 2, 2, 2, 2, 2, 2, 2, 3, 4, 4, 4, 4, 4, 4, 4, 4, 4, 4, 4, 4, 4, 4, 4, 4, 4, 4, 4, 4] (fun ph w' => Below w.heap.size w w' ∧ At w' w.heap.size 500 (if 1 ≤ ph then (some r) else st) ∧ At w' (w.heap.size + 1) 500 (if 2 ≤ ph then (some r) else st)) (by kernel_rfl) (by kernel_rfl) ⟨B.drew, hA.keep rfl, hB.keep rfl⟩ ?_ ?_
          · refine Obs_of_ends (by kernel_rfl) ?_
            intro A hE
            refine ⟨?_, ?_, ?_, ?_, ?_, ?_, ?_, ?_, ?_, ?_, ?_, ?_, ?_, ?_, ?_, ?_, ?_, ?_, ?_, ?_, ?_, ?_, ?_, ?_, ?_, ?_, ?_, ?_, ?_, ?_, ?_, ?_, ?_, ?_, ?_, ?_, ?_, ?_, ?_, ?_, ?_, ?_, ?_, ?_, ?_, ?_, ?_, ?_, ?_, ?_, ?_, ?_, ?_, ?_, ?_, ?_, ?_, ?_, ?_, ?_, ?_, ?_, ?_, ?_, ?_, ?_, ?_, ?_, ?_, ?_, ?_, ?_, ?_, ?_, ?_, ?_, ?_, ?_, ?_, ?_, ?_, ?_, ?_, ?_, trivial⟩
            · exact ob_move _ rfl (want_none rfl) (by kernel_rfl) (eval_out hE (d := 1) (by kernel_rfl))
            · exact ob_move _ rfl (want_none rfl) (by kernel_rfl) (eval_out hE (d := 7) (by kernel_rfl))
            · refine ob_val (want_none rfl) (by kernel_rfl) (fun ph w' hp hm hw => ?_)
              have e29 : A.tmps[29]? = some (.slice (some ⟨b, off, none⟩) len cap) := hE.dst 0 _ 29 rfl rfl; have e30 : A.tmps[30]? = some (.int .i64 (k : Int)) := hE.dst 1 _ 30 rfl rfl; simp [execOp, e29, e30, hi, hge, go_sem]
            · refine ob_val (want_none rfl) (by kernel_rfl) (fun ph w' hp hm hw => ?_)
              have e31 : A.tmps[31]? = some (.pointer (some ⟨b, off + k * 2, none⟩)) := hE.dst 2 _ 31 rfl rfl; simp [execOp, e31, go_sem]
            · refine ob_val (want_none rfl) (by kernel_rfl) (fun ph w' hp hm hw => ?_)
              have hc := (hw.1.cell (p := ⟨b, off + k * 2, none⟩) hbn).trans hc0; have e32 : A.tmps[32]? = some (.pointer (some ⟨b, off + k * 2, none⟩)) := hE.dst 3 _ 32 rfl rfl; simp [execOp, e32, hc, go_sem]
            · refine ob_val (want_none rfl) (by kernel_rfl) (fun ph w' hp hm hw => ?_)
              have e33 : A.tmps[33]? = some (.int .i64 0) := hE.dst 4 _ 33 rfl rfl; simp [execOp, e33, go_sem]
            · exact ob_move _ rfl (want_none rfl) (by kernel_rfl) (eval_dst hE (j := 5) rfl rfl)
            · exact ob_move _ rfl (want_is hE (g := 6) (x := true) (b := true) rfl rfl rfl rfl) (by kernel_rfl) (eval_out hE (d := 5) (by kernel_rfl))
            · exact ob_move _ rfl (want_is hE (g := 6) (x := true) (b := true) rfl rfl rfl rfl) (by kernel_rfl) (eval_out hE (d := 1) (by kernel_rfl))
            · exact ob_move _ rfl (want_is hE (g := 6) (x := true) (b := true) rfl rfl rfl rfl) (by kernel_rfl) (eval_out hE (d := 7) (by kernel_rfl))
            · refine ob_val (want_is hE (g := 6) (x := true) (b := true) rfl rfl rfl rfl) (by kernel_rfl) (fun ph w' hp hm hw => ?_)
              have e37 : A.tmps[37]? = some (.slice (some ⟨b, off, none⟩) len cap) := hE.dst 8 _ 37 rfl rfl; have e38 : A.tmps[38]? = some (.int .i64 (k : Int)) := hE.dst 9 _ 38 rfl rfl; simp [execOp, e37, e38, hi, hge, go_sem]
            · refine ob_val (want_is hE (g := 6) (x := true) (b := true) rfl rfl rfl rfl) (by kernel_rfl) (fun ph w' hp hm hw => ?_)
              have e39 : A.tmps[39]? = some (.pointer (some ⟨b, off + k * 2, none⟩)) := hE.dst 10 _ 39 rfl rfl; simp [execOp, e39, go_sem]
            · refine ob_val (want_is hE (g := 6) (x := true) (b := true) rfl rfl rfl rfl) (by kernel_rfl) (fun ph w' hp hm hw => ?_)
              have hc := (hw.1.cell (p := ⟨b, off + k * 2 + 1, none⟩) hbn).trans hc1; have e40 : A.tmps[40]? = some (.pointer (some ⟨b, off + k * 2 + 1, none⟩)) := hE.dst 11 _ 40 rfl rfl; simp [execOp, e40, hc, go_sem]
            · refine ob_call (q := 0) (f := 12) (args := #[.pointer (some ⟨w.heap.size, 0, none⟩), .int .i64 q]) (want_is hE (g := 6) (x := true) (b := true) rfl rfl rfl rfl) (by kernel_rfl) (fun w' => by have e36 : A.tmps[36]? = some (.pointer (some ⟨w.heap.size, 0, none⟩)) := hE.dst 7 _ 36 rfl rfl; have e41 : A.tmps[41]? = some (.int .i64 q) := hE.dst 12 _ 41 rfl rfl; simp [e36, e41, go_sem]) ?_
              rintro w' ⟨hb', ha', hb2⟩
              refine (leftNum_st w.heap.size 500 st q w' ha' (by omega)).mono ?_
              rintro e w2 ⟨rfl, h1, h2⟩
              exact ⟨rfl, hb'.trans (h2.below (Nat.le_refl _)), hst ▸ h1, hb2.only h2 (by omega)⟩
            · exact ob_move _ rfl (want_is hE (g := 6) (x := true) (b := true) rfl rfl rfl rfl) (by kernel_rfl) (eval_out hE (d := 6) (by kernel_rfl))
            · exact ob_move _ rfl (want_is hE (g := 6) (x := true) (b := true) rfl rfl rfl rfl) (by kernel_rfl) (eval_out hE (d := 1) (by kernel_rfl))
            · exact ob_move _ rfl (want_is hE (g := 6) (x := true) (b := true) rfl rfl rfl rfl) (by kernel_rfl) (eval_out hE (d := 7) (by kernel_rfl))
            · refine ob_val (want_is hE (g := 6) (x := true) (b := true) rfl rfl rfl rfl) (by kernel_rfl) (fun ph w' hp hm hw => ?_)
              have e44 : A.tmps[44]? = some (.slice (some ⟨b, off, none⟩) len cap) := hE.dst 15 _ 44 rfl rfl; have e45 : A.tmps[45]? = some (.int .i64 (k : Int)) := hE.dst 16 _ 45 rfl rfl; simp [execOp, e44, e45, hi, hge, go_sem]
            · refine ob_val (want_is hE (g := 6) (x := true) (b := true) rfl rfl rfl rfl) (by kernel_rfl) (fun ph w' hp hm hw => ?_)
              have e46 : A.tmps[46]? = some (.pointer (some ⟨b, off + k * 2, none⟩)) := hE.dst 17 _ 46 rfl rfl; simp [execOp, e46, go_sem]
            · refine ob_val (want_is hE (g := 6) (x := true) (b := true) rfl rfl rfl rfl) (by kernel_rfl) (fun ph w' hp hm hw => ?_)
              have hc := (hw.1.cell (p := ⟨b, off + k * 2 + 1, none⟩) hbn).trans hc1; have e47 : A.tmps[47]? = some (.pointer (some ⟨b, off + k * 2 + 1, none⟩)) := hE.dst 18 _ 47 rfl rfl; simp [execOp, e47, hc, go_sem]
            · refine ob_call (q := 1) (f := 13) (args := #[.pointer (some ⟨w.heap.size + 1, 0, none⟩), .int .i64 q]) (want_is hE (g := 6) (x := true) (b := true) rfl rfl rfl rfl) (by kernel_rfl) (fun w' => by have e43 : A.tmps[43]? = some (.pointer (some ⟨w.heap.size + 1, 0, none⟩)) := hE.dst 14 _ 43 rfl rfl; have e48 : A.tmps[48]? = some (.int .i64 q) := hE.dst 19 _ 48 rfl rfl; simp [e43, e48, go_sem]) ?_
              rintro w' ⟨hb', ha', hb2⟩
              refine (rleftNum_st (w.heap.size + 1) 500 st q w' hb2 (by omega)).mono ?_
              rintro e w2 ⟨rfl, h1, h2⟩
              exact ⟨rfl, hb'.trans (h2.below (by omega)), ha'.only h2 (by omega), hst ▸ h1⟩
            · refine ob_val (want_is hE (g := 6) (x := true) (b := true) rfl rfl rfl rfl) (by kernel_rfl) (fun ph w' hp hm hw => ?_)
              have e42 : A.tmps[42]? = some (.int .i64 (numOf st q)) := hE.dst 13 _ 42 rfl rfl; have e49 : A.tmps[49]? = some (.int .i64 (numOf st q)) := hE.dst 20 _ 49 rfl rfl; simp [execOp, e42, e49, go_sem]
            · refine ob_val (want_none rfl) (by kernel_rfl) (fun ph w' hp hm hw => ?_)
              have e35 : A.tmps[35]? = some (.bool true) := hE.dst 6 _ 35 rfl rfl; have e50 : A.tmps[50]? = some (.bool false) := hE.dst 21 _ 50 rfl rfl; simp [execOp, e35, e50, go_sem]
            · exact ob_move _ rfl (want_none rfl) (by kernel_rfl) (eval_dst hE (j := 22) rfl rfl)
            · exact ob_move _ rfl (want_is hE (g := 23) (x := false) (b := false) rfl rfl rfl rfl) (by kernel_rfl) (eval_out hE (d := 1) (by kernel_rfl))
            · exact ob_move _ rfl (want_is hE (g := 23) (x := false) (b := false) rfl rfl rfl rfl) (by kernel_rfl) (eval_out hE (d := 7) (by kernel_rfl))
            · refine ob_val (want_is hE (g := 23) (x := false) (b := false) rfl rfl rfl rfl) (by kernel_rfl) (fun ph w' hp hm hw => ?_)
              have e53 : A.tmps[53]? = some (.slice (some ⟨b, off, none⟩) len cap) := hE.dst 24 _ 53 rfl rfl; have e54 : A.tmps[54]? = some (.int .i64 (k : Int)) := hE.dst 25 _ 54 rfl rfl; simp [execOp, e53, e54, hi, hge, go_sem]
            · refine ob_val (want_is hE (g := 23) (x := false) (b := false) rfl rfl rfl rfl) (by kernel_rfl) (fun ph w' hp hm hw => ?_)
              have e55 : A.tmps[55]? = some (.pointer (some ⟨b, off + k * 2, none⟩)) := hE.dst 26 _ 55 rfl rfl; simp [execOp, e55, go_sem]
            · refine ob_val (want_is hE (g := 23) (x := false) (b := false) rfl rfl rfl rfl) (by kernel_rfl) (fun ph w' hp hm hw => ?_)
              have hc := (hw.1.cell (p := ⟨b, off + k * 2, none⟩) hbn).trans hc0; have e56 : A.tmps[56]? = some (.pointer (some ⟨b, off + k * 2, none⟩)) := hE.dst 27 _ 56 rfl rfl; simp [execOp, e56, hc, go_sem]
            · refine ob_val (want_is hE (g := 23) (x := false) (b := false) rfl rfl rfl rfl) (by kernel_rfl) (fun ph w' hp hm hw => ?_)
              have e57 : A.tmps[57]? = some (.int .i64 0) := hE.dst 28 _ 57 rfl rfl; simp [execOp, e57, go_sem]
            · exact ob_move _ rfl (want_is hE (g := 23) (x := false) (b := false) rfl rfl rfl rfl) (by kernel_rfl) (eval_dst hE (j := 29) rfl rfl)
            · exact ob_skip (want_is hE (g := 30) (x := false) (b := true) rfl rfl rfl rfl) (by kernel_rfl) rfl
            · exact ob_skip (want_is hE (g := 30) (x := false) (b := true) rfl rfl rfl rfl) (by kernel_rfl) rfl
            · exact ob_skip (want_is hE (g := 30) (x := false) (b := true) rfl rfl rfl rfl) (by kernel_rfl) rfl
            · exact ob_skip (want_is hE (g := 30) (x := false) (b := true) rfl rfl rfl rfl) (by kernel_rfl) rfl
            · exact ob_skip (want_is hE (g := 30) (x := false) (b := true) rfl rfl rfl rfl) (by kernel_rfl) rfl
            · exact ob_skip (want_is hE (g := 30) (x := false) (b := true) rfl rfl rfl rfl) (by kernel_rfl) rfl
            · exact ob_skip (want_is hE (g := 30) (x := false) (b := true) rfl rfl rfl rfl) (by kernel_rfl) rfl
            · exact ob_skip (want_is hE (g := 30) (x := false) (b := true) rfl rfl rfl rfl) (by kernel_rfl) rfl
            · exact ob_skip (want_is hE (g := 30) (x := false) (b := true) rfl rfl rfl rfl) (by kernel_rfl) rfl
            · exact ob_skip (want_is hE (g := 30) (x := false) (b := true) rfl rfl rfl rfl) (by kernel_rfl) rfl
            · exact ob_skip (want_is hE (g := 30) (x := false) (b := true) rfl rfl rfl rfl) (by kernel_rfl) rfl
            · exact ob_skip (want_is hE (g := 30) (x := false) (b := true) rfl rfl rfl rfl) (by kernel_rfl) rfl
            · exact ob_skip (want_is hE (g := 30) (x := false) (b := true) rfl rfl rfl rfl) (by kernel_rfl) rfl
            · exact ob_skip (want_is hE (g := 30) (x := false) (b := true) rfl rfl rfl rfl) (by kernel_rfl) rfl
            · exact ob_skip (want_is hE (g := 30) (x := false) (b := true) rfl rfl rfl rfl) (by kernel_rfl) rfl
            · refine ob_val (want_is hE (g := 23) (x := false) (b := false) rfl rfl rfl rfl) (by kernel_rfl) (fun ph w' hp hm hw => ?_)
              have e59 : A.tmps[59]? = some (.bool false) := hE.dst 30 _ 59 rfl rfl; have e74 : A.tmps[74]? = some (undef) := hE.dst 45 _ 74 rfl rfl; simp [execOp, e59, e74, go_sem]
            · refine ob_val (want_none rfl) (by kernel_rfl) (fun ph w' hp hm hw => ?_)
              have e52 : A.tmps[52]? = some (.bool false) := hE.dst 23 _ 52 rfl rfl; have e75 : A.tmps[75]? = some (.bool false) := hE.dst 46 _ 75 rfl rfl; simp [execOp, e52, e75, go_sem]
            · exact ob_move _ rfl (want_none rfl) (by kernel_rfl) (eval_dst hE (j := 47) rfl rfl)
            · exact ob_move _ rfl (want_is hE (g := 48) (x := false) (b := false) rfl rfl rfl rfl) (by kernel_rfl) (eval_out hE (d := 5) (by kernel_rfl))
            · refine ob_val (want_is hE (g := 48) (x := false) (b := false) rfl rfl rfl rfl) (by kernel_rfl) (fun ph w' hp hm hw => ?_)
              have e78 : A.tmps[78]? = some (.pointer (some ⟨w.heap.size, 0, none⟩)) := hE.dst 49 _ 78 rfl rfl; simp [execOp, e78, go_sem]
            · refine ob_val (want_is hE (g := 48) (x := false) (b := false) rfl rfl rfl rfl) (by kernel_rfl) (fun ph w' hp hm hw => ?_)
              have e79 : A.tmps[79]? = some (.pointer (some ⟨w.heap.size, 0, none⟩)) := hE.dst 50 _ 79 rfl rfl; simp [execOp, e79, go_sem]
            · refine ob_val (want_is hE (g := 48) (x := false) (b := false) rfl rfl rfl rfl) (by kernel_rfl) (fun ph w' hp hm hw => ?_)
              have hat : At w' w.heap.size 500 (some r) := by have h2 := hw.2.1; rwa [if_pos (show 1 ≤ ph from Nat.le_trans (by decide) hp)] at h2
              have hc := hat.1.g; have e80 : A.tmps[80]? = some (.pointer (some ⟨w.heap.size, 1, none⟩)) := hE.dst 51 _ 80 rfl rfl; simp [execOp, e80, hc, go_sem]
            · exact ob_move _ rfl (want_is hE (g := 48) (x := false) (b := false) rfl rfl rfl rfl) (by kernel_rfl) (eval_out hE (d := 6) (by kernel_rfl))
            · refine ob_val (want_is hE (g := 48) (x := false) (b := false) rfl rfl rfl rfl) (by kernel_rfl) (fun ph w' hp hm hw => ?_)
              have e82 : A.tmps[82]? = some (.pointer (some ⟨w.heap.size + 1, 0, none⟩)) := hE.dst 53 _ 82 rfl rfl; simp [execOp, e82, go_sem]
            · refine ob_val (want_is hE (g := 48) (x := false) (b := false) rfl rfl rfl rfl) (by kernel_rfl) (fun ph w' hp hm hw => ?_)
              have e83 : A.tmps[83]? = some (.pointer (some ⟨w.heap.size + 1, 0, none⟩)) := hE.dst 54 _ 83 rfl rfl; simp [execOp, e83, go_sem]
            · refine ob_val (want_is hE (g := 48) (x := false) (b := false) rfl rfl rfl rfl) (by kernel_rfl) (fun ph w' hp hm hw => ?_)
              have hat : At w' (w.heap.size + 1) 500 (some r) := by have h2 := hw.2.2; rwa [if_pos (show 2 ≤ ph from Nat.le_trans (by decide) hp)] at h2
              have hc := hat.1.g; have e84 : A.tmps[84]? = some (.pointer (some ⟨w.heap.size + 1, 1, none⟩)) := hE.dst 55 _ 84 rfl rfl; simp [execOp, e84, hc, go_sem]
            · refine ob_val (want_is hE (g := 48) (x := false) (b := false) rfl rfl rfl rfl) (by kernel_rfl) (fun ph w' hp hm hw => ?_)
              have e81 : A.tmps[81]? = some (.bool false) := hE.dst 52 _ 81 rfl rfl; have e85 : A.tmps[85]? = some (.bool false) := hE.dst 56 _ 85 rfl rfl; simp [execOp, e81, e85, go_sem]
            · refine ob_val (want_none rfl) (by kernel_rfl) (fun ph w' hp hm hw => ?_)
              have e77 : A.tmps[77]? = some (.bool false) := hE.dst 48 _ 77 rfl rfl; have e86 : A.tmps[86]? = some (.bool false) := hE.dst 57 _ 86 rfl rfl; simp [execOp, e77, e86, go_sem]
            · exact ob_move _ rfl (want_none rfl) (by kernel_rfl) (eval_dst hE (j := 58) rfl rfl)
            · exact ob_move _ rfl (want_is hE (g := 59) (x := false) (b := false) rfl rfl rfl rfl) (by kernel_rfl) (eval_out hE (d := 5) (by kernel_rfl))
            · refine ob_call (q := 2) (f := 16) (args := #[.pointer (some ⟨w.heap.size, 0, none⟩)]) (want_is hE (g := 59) (x := false) (b := false) rfl rfl rfl rfl) (by kernel_rfl) (fun w' => by have e89 : A.tmps[89]? = some (.pointer (some ⟨w.heap.size, 0, none⟩)) := hE.dst 60 _ 89 rfl rfl; simp [e89, go_sem]) ?_
              rintro w' ⟨hb', ha', hb2⟩
              refine (leftDone_st w.heap.size 500 (some r) w' ha').mono ?_
              rintro e w2 ⟨rfl, rfl⟩
              exact ⟨rfl, hb', ha', hb2⟩
            · exact ob_move _ rfl (want_is hE (g := 59) (x := false) (b := false) rfl rfl rfl rfl) (by kernel_rfl) (eval_out hE (d := 6) (by kernel_rfl))
            · refine ob_call (q := 3) (f := 17) (args := #[.pointer (some ⟨w.heap.size + 1, 0, none⟩)]) (want_is hE (g := 59) (x := false) (b := false) rfl rfl rfl rfl) (by kernel_rfl) (fun w' => by have e91 : A.tmps[91]? = some (.pointer (some ⟨w.heap.size + 1, 0, none⟩)) := hE.dst 62 _ 91 rfl rfl; simp [e91, go_sem]) ?_
              rintro w' ⟨hb', ha', hb2⟩
              refine (rleftDone_st (w.heap.size + 1) 500 (some r) w' hb2).mono ?_
              rintro e w2 ⟨rfl, rfl⟩
              exact ⟨rfl, hb', ha', hb2⟩
            · refine ob_val (want_is hE (g := 59) (x := false) (b := false) rfl rfl rfl rfl) (by kernel_rfl) (fun ph w' hp hm hw => ?_)
              have e90 : A.tmps[90]? = some (.bool (doneOf (some r))) := hE.dst 61 _ 90 rfl rfl; have e92 : A.tmps[92]? = some (.bool (doneOf (some r))) := hE.dst 63 _ 92 rfl rfl; simp [execOp, e90, e92, go_sem]
            · refine ob_val (want_none rfl) (by kernel_rfl) (fun ph w' hp hm hw => ?_)
              have e88 : A.tmps[88]? = some (.bool false) := hE.dst 59 _ 88 rfl rfl; have e93 : A.tmps[93]? = some (.bool false) := hE.dst 64 _ 93 rfl rfl; simp [execOp, e88, e93, go_sem]
            · exact ob_move _ rfl (want_none rfl) (by kernel_rfl) (eval_dst hE (j := 65) rfl rfl)
            · exact ob_move _ rfl (want_is hE (g := 66) (x := false) (b := false) rfl rfl rfl rfl) (by kernel_rfl) (eval_out hE (d := 5) (by kernel_rfl))
            · refine ob_val (want_is hE (g := 66) (x := false) (b := false) rfl rfl rfl rfl) (by kernel_rfl) (fun ph w' hp hm hw => ?_)
              have e96 : A.tmps[96]? = some (.pointer (some ⟨w.heap.size, 0, none⟩)) := hE.dst 67 _ 96 rfl rfl; simp [execOp, e96, go_sem]
            · refine ob_val (want_is hE (g := 66) (x := false) (b := false) rfl rfl rfl rfl) (by kernel_rfl) (fun ph w' hp hm hw => ?_)
              have e97 : A.tmps[97]? = some (.pointer (some ⟨w.heap.size, 0, none⟩)) := hE.dst 68 _ 97 rfl rfl; simp [execOp, e97, go_sem]
            · refine ob_val (want_is hE (g := 66) (x := false) (b := false) rfl rfl rfl rfl) (by kernel_rfl) (fun ph w' hp hm hw => ?_)
              have hat : At w' w.heap.size 500 (some r) := by have h2 := hw.2.1; rwa [if_pos (show 1 ≤ ph from Nat.le_trans (by decide) hp)] at h2
              have hc := hat.1.g; have e98 : A.tmps[98]? = some (.pointer (some ⟨w.heap.size, 1, none⟩)) := hE.dst 69 _ 98 rfl rfl; simp [execOp, e98, hc, go_sem]
            · refine ob_val (want_is hE (g := 66) (x := false) (b := false) rfl rfl rfl rfl) (by kernel_rfl) (fun ph w' hp hm hw => ?_)
              have e99 : A.tmps[99]? = some (.bool false) := hE.dst 70 _ 99 rfl rfl; simp [execOp, e99, go_sem]
            · exact ob_move _ rfl (want_is hE (g := 66) (x := false) (b := false) rfl rfl rfl rfl) (by kernel_rfl) (eval_dst hE (j := 71) rfl rfl)
            · exact ob_move _ rfl (want_is hE (g := 72) (x := true) (b := true) rfl rfl rfl rfl) (by kernel_rfl) (eval_out hE (d := 5) (by kernel_rfl))
            · refine ob_val (want_is hE (g := 72) (x := true) (b := true) rfl rfl rfl rfl) (by kernel_rfl) (fun ph w' hp hm hw => ?_)
              have e102 : A.tmps[102]? = some (.pointer (some ⟨w.heap.size, 0, none⟩)) := hE.dst 73 _ 102 rfl rfl; simp [execOp, e102, go_sem]
            · refine ob_val (want_is hE (g := 72) (x := true) (b := true) rfl rfl rfl rfl) (by kernel_rfl) (fun ph w' hp hm hw => ?_)
              have e103 : A.tmps[103]? = some (.pointer (some ⟨w.heap.size, 0, none⟩)) := hE.dst 74 _ 103 rfl rfl; simp [execOp, e103, go_sem]
            · refine ob_val (want_is hE (g := 72) (x := true) (b := true) rfl rfl rfl rfl) (by kernel_rfl) (fun ph w' hp hm hw => ?_)
              have hat : At w' w.heap.size 500 (some r) := by have h2 := hw.2.1; rwa [if_pos (show 1 ≤ ph from Nat.le_trans (by decide) hp)] at h2
              have hc := hat.1.s; have e104 : A.tmps[104]? = some (.pointer (some ⟨w.heap.size, 0, none⟩)) := hE.dst 75 _ 104 rfl rfl; simp [execOp, e104, hc, go_sem]
            · exact ob_move _ rfl (want_is hE (g := 72) (x := true) (b := true) rfl rfl rfl rfl) (by kernel_rfl) (eval_out hE (d := 6) (by kernel_rfl))
            · refine ob_val (want_is hE (g := 72) (x := true) (b := true) rfl rfl rfl rfl) (by kernel_rfl) (fun ph w' hp hm hw => ?_)
              have e106 : A.tmps[106]? = some (.pointer (some ⟨w.heap.size + 1, 0, none⟩)) := hE.dst 77 _ 106 rfl rfl; simp [execOp, e106, go_sem]
            · refine ob_val (want_is hE (g := 72) (x := true) (b := true) rfl rfl rfl rfl) (by kernel_rfl) (fun ph w' hp hm hw => ?_)
              have e107 : A.tmps[107]? = some (.pointer (some ⟨w.heap.size + 1, 0, none⟩)) := hE.dst 78 _ 107 rfl rfl; simp [execOp, e107, go_sem]
            · refine ob_val (want_is hE (g := 72) (x := true) (b := true) rfl rfl rfl rfl) (by kernel_rfl) (fun ph w' hp hm hw => ?_)
              have hat : At w' (w.heap.size + 1) 500 (some r) := by have h2 := hw.2.2; rwa [if_pos (show 2 ≤ ph from Nat.le_trans (by decide) hp)] at h2
              have hc := hat.1.s; have e108 : A.tmps[108]? = some (.pointer (some ⟨w.heap.size + 1, 0, none⟩)) := hE.dst 79 _ 108 rfl rfl; simp [execOp, e108, hc, go_sem]
            · refine ob_val (want_is hE (g := 72) (x := true) (b := true) rfl rfl rfl rfl) (by kernel_rfl) (fun ph w' hp hm hw => ?_)
              have e105 : A.tmps[105]? = some (.string (tx r)) := hE.dst 76 _ 105 rfl rfl; have e109 : A.tmps[109]? = some (.string (tx r)) := hE.dst 80 _ 109 rfl rfl; simp [execOp, e105, e109, go_sem]
            · refine ob_val (want_is hE (g := 66) (x := false) (b := false) rfl rfl rfl rfl) (by kernel_rfl) (fun ph w' hp hm hw => ?_)
              have e101 : A.tmps[101]? = some (.bool true) := hE.dst 72 _ 101 rfl rfl; have e110 : A.tmps[110]? = some (.bool false) := hE.dst 81 _ 110 rfl rfl; simp [execOp, e101, e110, go_sem]
            · refine ob_val (want_none rfl) (by kernel_rfl) (fun ph w' hp hm hw => ?_)
              have e95 : A.tmps[95]? = some (.bool false) := hE.dst 66 _ 95 rfl rfl; have e111 : A.tmps[111]? = some (.bool false) := hE.dst 82 _ 111 rfl rfl; simp [execOp, e95, e111, go_sem]
          · intro w' ⟨hb', ha', hb2⟩
            simp only [laid, Act.put, List.setIfInBounds_toArray, List.set_cons_succ, List.set_cons_zero, List.getD_cons_succ, List.getD_cons_zero, Nat.zero_add, Nat.reduceAdd]
            go_wp2_with fail
            exact ⟨⟨k + 1, (some r), by omega, by go_num, ha', hb2, hb'⟩, by simp [intOf]; omega⟩
      · by_cases hp1' : p = 1
        · subst hp1'
          clear hp0'
          rcases hst : textSt st q with _ | r
          · go_wp2_with fail
            simp only [List.append]
            refine wp_region_plan (fun i => ([.slice (some ⟨b, off, none⟩) len cap, .int .i64 (k : Int), .pointer (some ⟨b, off + k * 2, none⟩), .pointer (some ⟨b, off + k * 2, none⟩), .int .i64 1, .bool false, .bool false, undef, undef, undef, undef, undef, undef, undef, undef, undef, undef, undef, undef, undef, undef, undef, .bool false, .bool false, .slice (some ⟨b, off, none⟩) len cap, .int .i64 (k : Int), .pointer (some ⟨b, off + k * 2, none⟩), .pointer (some ⟨b, off + k * 2, none⟩), .int .i64 1, .bool true, .bool true, .pointer (some ⟨w.heap.size, 0, none⟩), .slice (some ⟨b, off, none⟩) len cap, .int .i64 (k : Int), .pointer (some ⟨b, off + k * 2, none⟩), .pointer (some ⟨b, off + k * 2 + 1, none⟩), .int .i64 q, .string (tx (textOf st q)), .pointer (some ⟨w.heap.size + 1, 0, none⟩), .slice (some ⟨b, off, none⟩) len cap, .int .i64 (k : Int), .pointer (some ⟨b, off + k * 2, none⟩), .pointer (some ⟨b, off + k * 2 + 1, none⟩), .int .i64 q, .string (tx (textOf st q)), .bool false, .bool false, .bool false, .bool false, .pointer (some ⟨w.heap.size, 0, none⟩), .pointer (some ⟨w.heap.size, 0, none⟩), .pointer (some ⟨w.heap.size, 1, none⟩), .bool true, .pointer (some ⟨w.heap.size + 1, 0, none⟩), .pointer (some ⟨w.heap.size + 1, 0, none⟩), .pointer (some ⟨w.heap.size + 1, 1, none⟩), .bool true, .bool false, .bool false, .bool false, .pointer (some ⟨w.heap.size, 0, none⟩), .bool (doneOf none), .pointer (some ⟨w.heap.size + 1, 0, none⟩), .bool (doneOf none), .bool false, .bool false, .bool false, .pointer (some ⟨w.heap.size, 0, none⟩), .pointer (some ⟨w.heap.size, 0, none⟩), .pointer (some ⟨w.heap.size, 1, none⟩), .bool true, .bool false, .bool false, undef, undef, undef, undef, undef, undef, undef, undef, undef, .bool false, .bool false] : List Value).getD i undef) [37, 44, 61, 63] [0, 0, 0, 0, 0, 0, 0, 0, 0, 0, 0, 0, 0, 0, 0, 0, 0, 0, 0, 0, 0, 0, 0, 0, 0, 0, 0, 0, 0, 0, 0, 0, 0, 0, 0, 0, 0, 0, 0, 0, 0, 0, 0, 0, 1, 2, 2, 2, 2, 2, 2, 2, 2, 2, 2, 2, 2, 2, 2, 2, 2, 2, 2, 3, 4, 4, 4, 4, 4, 4, 4, 4, 4, 4, 4, 4, 4, 4, 4, 4, 4, 4, 4, 4] (fun ph w' => Below w.heap.size w w' ∧ At w' w.heap.size 500 (if 1 ≤ ph then none else st) ∧ At w' (w.heap.size + 1) 500 (if 2 ≤ ph then none else st)) (by kernel_rfl) (by kernel_rfl) ⟨B.drew, hA.keep rfl, hB.keep rfl⟩ ?_ ?_
            · refine Obs_of_ends (by kernel_rfl) ?_
              intro A hE
              refine ⟨?_, ?_, ?_, ?_, ?_, ?_, ?_, ?_, ?_, ?_, ?_, ?_, ?_, ?_, ?_, ?_, ?_, ?_, ?_, ?_, ?_, ?_, ?_, ?_, ?_, ?_, ?_, ?_, ?_, ?_, ?_, ?_, ?_, ?_, ?_, ?_, ?_, ?_, ?_, ?_, ?_, ?_, ?_, ?_, ?_, ?_, ?_, ?_, ?_, ?_, ?_, ?_, ?_, ?_, ?_, ?_, ?_, ?_, ?_, ?_, ?_, ?_, ?_, ?_, ?_, ?_, ?_, ?_, ?_, ?_, ?_, ?_, ?_, ?_, ?_, ?_, ?_, ?_, ?_, ?_, ?_, ?_, ?_, ?_, trivial⟩
              · exact ob_move _ rfl (want_none rfl) (by kernel_rfl) (eval_out hE (d := 1) (by kernel_rfl))
              · exact ob_move _ rfl (want_none rfl) (by kernel_rfl) (eval_out hE (d := 7) (by kernel_rfl))
              · refine ob_val (want_none rfl) (by kernel_rfl) (fun ph w' hp hm hw => ?_)
                have e29 : A.tmps[29]? = some (.slice (some ⟨b, off, none⟩) len cap) := hE.dst 0 _ 29 rfl rfl; have e30 : A.tmps[30]? = some (.int .i64 (k : Int)) := hE.dst 1 _ 30 rfl rfl; simp [execOp, e29, e30, hi, hge, go_sem]
              · refine ob_val (want_none rfl) (by kernel_rfl) (fun ph w' hp hm hw => ?_)
                have e31 : A.tmps[31]? = some (.pointer (some ⟨b, off + k * 2, none⟩)) := hE.dst 2 _ 31 rfl rfl; simp [execOp, e31, go_sem]
              · refine ob_val (want_none rfl) (by kernel_rfl) (fun ph w' hp hm hw => ?_)
                have hc := (hw.1.cell (p := ⟨b, off + k * 2, none⟩) hbn).trans hc0; have e32 : A.tmps[32]? = some (.pointer (some ⟨b, off + k * 2, none⟩)) := hE.dst 3 _ 32 rfl rfl; simp [execOp, e32, hc, go_sem]
              · refine ob_val (want_none rfl) (by kernel_rfl) (fun ph w' hp hm hw => ?_)
                have e33 : A.tmps[33]? = some (.int .i64 1) := hE.dst 4 _ 33 rfl rfl; simp [execOp, e33, go_sem]
              · exact ob_move _ rfl (want_none rfl) (by kernel_rfl) (eval_dst hE (j := 5) rfl rfl)
              · exact ob_skip (want_is hE (g := 6) (x := false) (b := true) rfl rfl rfl rfl) (by kernel_rfl) rfl
              · exact ob_skip (want_is hE (g := 6) (x := false) (b := true) rfl rfl rfl rfl) (by kernel_rfl) rfl
              · exact ob_skip (want_is hE (g := 6) (x := false) (b := true) rfl rfl rfl rfl) (by kernel_rfl) rfl
              · exact ob_skip (want_is hE (g := 6) (x := false) (b := true) rfl rfl rfl rfl) (by kernel_rfl) rfl
              · exact ob_skip (want_is hE (g := 6) (x := false) (b := true) rfl rfl rfl rfl) (by kernel_rfl) rfl
              · exact ob_skip (want_is hE (g := 6) (x := false) (b := true) rfl rfl rfl rfl) (by kernel_rfl) rfl
              · exact ob_skip (want_is hE (g := 6) (x := false) (b := true) rfl rfl rfl rfl) (by kernel_rfl) rfl
              · exact ob_skip (want_is hE (g := 6) (x := false) (b := true) rfl rfl rfl rfl) (by kernel_rfl) rfl
              · exact ob_skip (want_is hE (g := 6) (x := false) (b := true) rfl rfl rfl rfl) (by kernel_rfl) rfl
              · exact ob_skip (want_is hE (g := 6) (x := false) (b := true) rfl rfl rfl rfl) (by kernel_rfl) rfl
              · exact ob_skip (want_is hE (g := 6) (x := false) (b := true) rfl rfl rfl rfl) (by kernel_rfl) rfl
              · exact ob_skip (want_is hE (g := 6) (x := false) (b := true) rfl rfl rfl rfl) (by kernel_rfl) rfl
              · exact ob_skip (want_is hE (g := 6) (x := false) (b := true) rfl rfl rfl rfl) (by kernel_rfl) rfl
              · exact ob_skip (want_is hE (g := 6) (x := false) (b := true) rfl rfl rfl rfl) (by kernel_rfl) rfl
              · exact ob_skip (want_is hE (g := 6) (x := false) (b := true) rfl rfl rfl rfl) (by kernel_rfl) rfl
              · refine ob_val (want_none rfl) (by kernel_rfl) (fun ph w' hp hm hw => ?_)
                have e35 : A.tmps[35]? = some (.bool false) := hE.dst 6 _ 35 rfl rfl; have e50 : A.tmps[50]? = some (undef) := hE.dst 21 _ 50 rfl rfl; simp [execOp, e35, e50, go_sem]
              · exact ob_move _ rfl (want_none rfl) (by kernel_rfl) (eval_dst hE (j := 22) rfl rfl)
              · exact ob_move _ rfl (want_is hE (g := 23) (x := false) (b := false) rfl rfl rfl rfl) (by kernel_rfl) (eval_out hE (d := 1) (by kernel_rfl))
              · exact ob_move _ rfl (want_is hE (g := 23) (x := false) (b := false) rfl rfl rfl rfl) (by kernel_rfl) (eval_out hE (d := 7) (by kernel_rfl))
              · refine ob_val (want_is hE (g := 23) (x := false) (b := false) rfl rfl rfl rfl) (by kernel_rfl) (fun ph w' hp hm hw => ?_)
                have e53 : A.tmps[53]? = some (.slice (some ⟨b, off, none⟩) len cap) := hE.dst 24 _ 53 rfl rfl; have e54 : A.tmps[54]? = some (.int .i64 (k : Int)) := hE.dst 25 _ 54 rfl rfl; simp [execOp, e53, e54, hi, hge, go_sem]
              · refine ob_val (want_is hE (g := 23) (x := false) (b := false) rfl rfl rfl rfl) (by kernel_rfl) (fun ph w' hp hm hw => ?_)
                have e55 : A.tmps[55]? = some (.pointer (some ⟨b, off + k * 2, none⟩)) := hE.dst 26 _ 55 rfl rfl; simp [execOp, e55, go_sem]
              · refine ob_val (want_is hE (g := 23) (x := false) (b := false) rfl rfl rfl rfl) (by kernel_rfl) (fun ph w' hp hm hw => ?_)
                have hc := (hw.1.cell (p := ⟨b, off + k * 2, none⟩) hbn).trans hc0; have e56 : A.tmps[56]? = some (.pointer (some ⟨b, off + k * 2, none⟩)) := hE.dst 27 _ 56 rfl rfl; simp [execOp, e56, hc, go_sem]
              · refine ob_val (want_is hE (g := 23) (x := false) (b := false) rfl rfl rfl rfl) (by kernel_rfl) (fun ph w' hp hm hw => ?_)
                have e57 : A.tmps[57]? = some (.int .i64 1) := hE.dst 28 _ 57 rfl rfl; simp [execOp, e57, go_sem]
              · exact ob_move _ rfl (want_is hE (g := 23) (x := false) (b := false) rfl rfl rfl rfl) (by kernel_rfl) (eval_dst hE (j := 29) rfl rfl)
              · exact ob_move _ rfl (want_is hE (g := 30) (x := true) (b := true) rfl rfl rfl rfl) (by kernel_rfl) (eval_out hE (d := 5) (by kernel_rfl))
              · exact ob_move _ rfl (want_is hE (g := 30) (x := true) (b := true) rfl rfl rfl rfl) (by kernel_rfl) (eval_out hE (d := 1) (by kernel_rfl))
              · exact ob_move _ rfl (want_is hE (g := 30) (x := true) (b := true) rfl rfl rfl rfl) (by kernel_rfl) (eval_out hE (d := 7) (by kernel_rfl))
              · refine ob_val (want_is hE (g := 30) (x := true) (b := true) rfl rfl rfl rfl) (by kernel_rfl) (fun ph w' hp hm hw => ?_)
                have e61 : A.tmps[61]? = some (.slice (some ⟨b, off, none⟩) len cap) := hE.dst 32 _ 61 rfl rfl; have e62 : A.tmps[62]? = some (.int .i64 (k : Int)) := hE.dst 33 _ 62 rfl rfl; simp [execOp, e61, e62, hi, hge, go_sem]
              · refine ob_val (want_is hE (g := 30) (x := true) (b := true) rfl rfl rfl rfl) (by kernel_rfl) (fun ph w' hp hm hw => ?_)
                have e63 : A.tmps[63]? = some (.pointer (some ⟨b, off + k * 2, none⟩)) := hE.dst 34 _ 63 rfl rfl; simp [execOp, e63, go_sem]
              · refine ob_val (want_is hE (g := 30) (x := true) (b := true) rfl rfl rfl rfl) (by kernel_rfl) (fun ph w' hp hm hw => ?_)
                have hc := (hw.1.cell (p := ⟨b, off + k * 2 + 1, none⟩) hbn).trans hc1; have e64 : A.tmps[64]? = some (.pointer (some ⟨b, off + k * 2 + 1, none⟩)) := hE.dst 35 _ 64 rfl rfl; simp [execOp, e64, hc, go_sem]
              · refine ob_call (q := 0) (f := 14) (args := #[.pointer (some ⟨w.heap.size, 0, none⟩), .int .i64 q]) (want_is hE (g := 30) (x := true) (b := true) rfl rfl rfl rfl) (by kernel_rfl) (fun w' => by have e60 : A.tmps[60]? = some (.pointer (some ⟨w.heap.size, 0, none⟩)) := hE.dst 31 _ 60 rfl rfl; have e65 : A.tmps[65]? = some (.int .i64 q) := hE.dst 36 _ 65 rfl rfl; simp [e60, e65, go_sem]) ?_
                rintro w' ⟨hb', ha', hb2⟩
                refine (leftText_st w.heap.size 500 st q w' ha' (by omega)).mono ?_
                rintro e w2 ⟨rfl, h1, h2⟩
                exact ⟨rfl, hb'.trans (h2.below (Nat.le_refl _)), hst ▸ h1, hb2.only h2 (by omega)⟩
              · exact ob_move _ rfl (want_is hE (g := 30) (x := true) (b := true) rfl rfl rfl rfl) (by kernel_rfl) (eval_out hE (d := 6) (by kernel_rfl))
              · exact ob_move _ rfl (want_is hE (g := 30) (x := true) (b := true) rfl rfl rfl rfl) (by kernel_rfl) (eval_out hE (d := 1) (by kernel_rfl))
              · exact ob_move _ rfl (want_is hE (g := 30) (x := true) (b := true) rfl rfl rfl rfl) (by kernel_rfl) (eval_out hE (d := 7) (by kernel_rfl))
              · refine ob_val (want_is hE (g := 30) (x := true) (b := true) rfl rfl rfl rfl) (by kernel_rfl) (fun ph w' hp hm hw => ?_)
                have e68 : A.tmps[68]? = some (.slice (some ⟨b, off, none⟩) len cap) := hE.dst 39 _ 68 rfl rfl; have e69 : A.tmps[69]? = some (.int .i64 (k : Int)) := hE.dst 40 _ 69 rfl rfl; simp [execOp, e68, e69, hi, hge, go_sem]
              · refine ob_val (want_is hE (g := 30) (x := true) (b := true) rfl rfl rfl rfl) (by kernel_rfl) (fun ph w' hp hm hw => ?_)
                have e70 : A.tmps[70]? = some (.pointer (some ⟨b, off + k * 2, none⟩)) := hE.dst 41 _ 70 rfl rfl; simp [execOp, e70, go_sem]
              · refine ob_val (want_is hE (g := 30) (x := true) (b := true) rfl rfl rfl rfl) (by kernel_rfl) (fun ph w' hp hm hw => ?_)
                have hc := (hw.1.cell (p := ⟨b, off + k * 2 + 1, none⟩) hbn).trans hc1; have e71 : A.tmps[71]? = some (.pointer (some ⟨b, off + k * 2 + 1, none⟩)) := hE.dst 42 _ 71 rfl rfl; simp [execOp, e71, hc, go_sem]
              · refine ob_call (q := 1) (f := 15) (args := #[.pointer (some ⟨w.heap.size + 1, 0, none⟩), .int .i64 q]) (want_is hE (g := 30) (x := true) (b := true) rfl rfl rfl rfl) (by kernel_rfl) (fun w' => by have e67 : A.tmps[67]? = some (.pointer (some ⟨w.heap.size + 1, 0, none⟩)) := hE.dst 38 _ 67 rfl rfl; have e72 : A.tmps[72]? = some (.int .i64 q) := hE.dst 43 _ 72 rfl rfl; simp [e67, e72, go_sem]) ?_
                rintro w' ⟨hb', ha', hb2⟩
                refine (rleftText_st (w.heap.size + 1) 500 st q w' hb2 (by omega)).mono ?_
                rintro e w2 ⟨rfl, h1, h2⟩
                exact ⟨rfl, hb'.trans (h2.below (by omega)), ha'.only h2 (by omega), hst ▸ h1⟩
              · refine ob_val (want_is hE (g := 30) (x := true) (b := true) rfl rfl rfl rfl) (by kernel_rfl) (fun ph w' hp hm hw => ?_)
                have e66 : A.tmps[66]? = some (.string (tx (textOf st q))) := hE.dst 37 _ 66 rfl rfl; have e73 : A.tmps[73]? = some (.string (tx (textOf st q))) := hE.dst 44 _ 73 rfl rfl; simp [execOp, e66, e73, go_sem]
              · refine ob_val (want_is hE (g := 23) (x := false) (b := false) rfl rfl rfl rfl) (by kernel_rfl) (fun ph w' hp hm hw => ?_)
                have e59 : A.tmps[59]? = some (.bool true) := hE.dst 30 _ 59 rfl rfl; have e74 : A.tmps[74]? = some (.bool false) := hE.dst 45 _ 74 rfl rfl; simp [execOp, e59, e74, go_sem]
              · refine ob_val (want_none rfl) (by kernel_rfl) (fun ph w' hp hm hw => ?_)
                have e52 : A.tmps[52]? = some (.bool false) := hE.dst 23 _ 52 rfl rfl; have e75 : A.tmps[75]? = some (.bool false) := hE.dst 46 _ 75 rfl rfl; simp [execOp, e52, e75, go_sem]
              · exact ob_move _ rfl (want_none rfl) (by kernel_rfl) (eval_dst hE (j := 47) rfl rfl)
              · exact ob_move _ rfl (want_is hE (g := 48) (x := false) (b := false) rfl rfl rfl rfl) (by kernel_rfl) (eval_out hE (d := 5) (by kernel_rfl))
              · refine ob_val (want_is hE (g := 48) (x := false) (b := false) rfl rfl rfl rfl) (by kernel_rfl) (fun ph w' hp hm hw => ?_)
                have e78 : A.tmps[78]? = some (.pointer (some ⟨w.heap.size, 0, none⟩)) := hE.dst 49 _ 78 rfl rfl; simp [execOp, e78, go_sem]
              · refine ob_val (want_is hE (g := 48) (x := false) (b := false) rfl rfl rfl rfl) (by kernel_rfl) (fun ph w' hp hm hw => ?_)
                have e79 : A.tmps[79]? = some (.pointer (some ⟨w.heap.size, 0, none⟩)) := hE.dst 50 _ 79 rfl rfl; simp [execOp, e79, go_sem]
              · refine ob_val (want_is hE (g := 48) (x := false) (b := false) rfl rfl rfl rfl) (by kernel_rfl) (fun ph w' hp hm hw => ?_)
                have hat : At w' w.heap.size 500 none := by have h2 := hw.2.1; rwa [if_pos (show 1 ≤ ph from Nat.le_trans (by decide) hp)] at h2
                have hc := (BadAt.cell hat); have e80 : A.tmps[80]? = some (.pointer (some ⟨w.heap.size, 1, none⟩)) := hE.dst 51 _ 80 rfl rfl; simp [execOp, e80, hc, go_sem]
              · exact ob_move _ rfl (want_is hE (g := 48) (x := false) (b := false) rfl rfl rfl rfl) (by kernel_rfl) (eval_out hE (d := 6) (by kernel_rfl))
              · refine ob_val (want_is hE (g := 48) (x := false) (b := false) rfl rfl rfl rfl) (by kernel_rfl) (fun ph w' hp hm hw => ?_)
                have e82 : A.tmps[82]? = some (.pointer (some ⟨w.heap.size + 1, 0, none⟩)) := hE.dst 53 _ 82 rfl rfl; simp [execOp, e82, go_sem]
              · refine ob_val (want_is hE (g := 48) (x := false) (b := false) rfl rfl rfl rfl) (by kernel_rfl) (fun ph w' hp hm hw => ?_)
                have e83 : A.tmps[83]? = some (.pointer (some ⟨w.heap.size + 1, 0, none⟩)) := hE.dst 54 _ 83 rfl rfl; simp [execOp, e83, go_sem]
              · refine ob_val (want_is hE (g := 48) (x := false) (b := false) rfl rfl rfl rfl) (by kernel_rfl) (fun ph w' hp hm hw => ?_)
                have hat : At w' (w.heap.size + 1) 500 none := by have h2 := hw.2.2; rwa [if_pos (show 2 ≤ ph from Nat.le_trans (by decide) hp)] at h2
                have hc := (BadAt.cell hat); have e84 : A.tmps[84]? = some (.pointer (some ⟨w.heap.size + 1, 1, none⟩)) := hE.dst 55 _ 84 rfl rfl; simp [execOp, e84, hc, go_sem]
              · refine ob_val (want_is hE (g := 48) (x := false) (b := false) rfl rfl rfl rfl) (by kernel_rfl) (fun ph w' hp hm hw => ?_)
                have e81 : A.tmps[81]? = some (.bool true) := hE.dst 52 _ 81 rfl rfl; have e85 : A.tmps[85]? = some (.bool true) := hE.dst 56 _ 85 rfl rfl; simp [execOp, e81, e85, go_sem]
              · refine ob_val (want_none rfl) (by kernel_rfl) (fun ph w' hp hm hw => ?_)
                have e77 : A.tmps[77]? = some (.bool false) := hE.dst 48 _ 77 rfl rfl; have e86 : A.tmps[86]? = some (.bool false) := hE.dst 57 _ 86 rfl rfl; simp [execOp, e77, e86, go_sem]
              · exact ob_move _ rfl (want_none rfl) (by kernel_rfl) (eval_dst hE (j := 58) rfl rfl)
              · exact ob_move _ rfl (want_is hE (g := 59) (x := false) (b := false) rfl rfl rfl rfl) (by kernel_rfl) (eval_out hE (d := 5) (by kernel_rfl))
              · refine ob_call (q := 2) (f := 16) (args := #[.pointer (some ⟨w.heap.size, 0, none⟩)]) (want_is hE (g := 59) (x := false) (b := false) rfl rfl rfl rfl) (by kernel_rfl) (fun w' => by have e89 : A.tmps[89]? = some (.pointer (some ⟨w.heap.size, 0, none⟩)) := hE.dst 60 _ 89 rfl rfl; simp [e89, go_sem]) ?_
                rintro w' ⟨hb', ha', hb2⟩
                refine (leftDone_st w.heap.size 500 none w' ha').mono ?_
                rintro e w2 ⟨rfl, rfl⟩
                exact ⟨rfl, hb', ha', hb2⟩
              · exact ob_move _ rfl (want_is hE (g := 59) (x := false) (b := false) rfl rfl rfl rfl) (by kernel_rfl) (eval_out hE (d := 6) (by kernel_rfl))
              · refine ob_call (q := 3) (f := 17) (args := #[.pointer (some ⟨w.heap.size + 1, 0, none⟩)]) (want_is hE (g := 59) (x := false) (b := false) rfl rfl rfl rfl) (by kernel_rfl) (fun w' => by have e91 : A.tmps[91]? = some (.pointer (some ⟨w.heap.size + 1, 0, none⟩)) := hE.dst 62 _ 91 rfl rfl; simp [e91, go_sem]) ?_
                rintro w' ⟨hb', ha', hb2⟩
                refine (rleftDone_st (w.heap.size + 1) 500 none w' hb2).mono ?_
                rintro e w2 ⟨rfl, rfl⟩
                exact ⟨rfl, hb', ha', hb2⟩
              · refine ob_val (want_is hE (g := 59) (x := false) (b := false) rfl rfl rfl rfl) (by kernel_rfl) (fun ph w' hp hm hw => ?_)
                have e90 : A.tmps[90]? = some (.bool (doneOf none)) := hE.dst 61 _ 90 rfl rfl; have e92 : A.tmps[92]? = some (.bool (doneOf none)) := hE.dst 63 _ 92 rfl rfl; simp [execOp, e90, e92, go_sem]
              · refine ob_val (want_none rfl) (by kernel_rfl) (fun ph w' hp hm hw => ?_)
                have e88 : A.tmps[88]? = some (.bool false) := hE.dst 59 _ 88 rfl rfl; have e93 : A.tmps[93]? = some (.bool false) := hE.dst 64 _ 93 rfl rfl; simp [execOp, e88, e93, go_sem]
              · exact ob_move _ rfl (want_none rfl) (by kernel_rfl) (eval_dst hE (j := 65) rfl rfl)
              · exact ob_move _ rfl (want_is hE (g := 66) (x := false) (b := false) rfl rfl rfl rfl) (by kernel_rfl) (eval_out hE (d := 5) (by kernel_rfl))
              · refine ob_val (want_is hE (g := 66) (x := false) (b := false) rfl rfl rfl rfl) (by kernel_rfl) (fun ph w' hp hm hw => ?_)
                have e96 : A.tmps[96]? = some (.pointer (some ⟨w.heap.size, 0, none⟩)) := hE.dst 67 _ 96 rfl rfl; simp [execOp, e96, go_sem]
              · refine ob_val (want_is hE (g := 66) (x := false) (b := false) rfl rfl rfl rfl) (by kernel_rfl) (fun ph w' hp hm hw => ?_)
                have e97 : A.tmps[97]? = some (.pointer (some ⟨w.heap.size, 0, none⟩)) := hE.dst 68 _ 97 rfl rfl; simp [execOp, e97, go_sem]
              · refine ob_val (want_is hE (g := 66) (x := false) (b := false) rfl rfl rfl rfl) (by kernel_rfl) (fun ph w' hp hm hw => ?_)
                have hat : At w' w.heap.size 500 none := by have h2 := hw.2.1; rwa [if_pos (show 1 ≤ ph from Nat.le_trans (by decide) hp)] at h2
                have hc := (BadAt.cell hat); have e98 : A.tmps[98]? = some (.pointer (some ⟨w.heap.size, 1, none⟩)) := hE.dst 69 _ 98 rfl rfl; simp [execOp, e98, hc, go_sem]
              · refine ob_val (want_is hE (g := 66) (x := false) (b := false) rfl rfl rfl rfl) (by kernel_rfl) (fun ph w' hp hm hw => ?_)
                have e99 : A.tmps[99]? = some (.bool true) := hE.dst 70 _ 99 rfl rfl; simp [execOp, e99, go_sem]
              · exact ob_move _ rfl (want_is hE (g := 66) (x := false) (b := false) rfl rfl rfl rfl) (by kernel_rfl) (eval_dst hE (j := 71) rfl rfl)
              · exact ob_skip (want_is hE (g := 72) (x := false) (b := true) rfl rfl rfl rfl) (by kernel_rfl) rfl
              · exact ob_skip (want_is hE (g := 72) (x := false) (b := true) rfl rfl rfl rfl) (by kernel_rfl) rfl
              · exact ob_skip (want_is hE (g := 72) (x := false) (b := true) rfl rfl rfl rfl) (by kernel_rfl) rfl
              · exact ob_skip (want_is hE (g := 72) (x := false) (b := true) rfl rfl rfl rfl) (by kernel_rfl) rfl
              · exact ob_skip (want_is hE (g := 72) (x := false) (b := true) rfl rfl rfl rfl) (by kernel_rfl) rfl
              · exact ob_skip (want_is hE (g := 72) (x := false) (b := true) rfl rfl rfl rfl) (by kernel_rfl) rfl
              · exact ob_skip (want_is hE (g := 72) (x := false) (b := true) rfl rfl rfl rfl) (by kernel_rfl) rfl
              · exact ob_skip (want_is hE (g := 72) (x := false) (b := true) rfl rfl rfl rfl) (by kernel_rfl) rfl
              · exact ob_skip (want_is hE (g := 72) (x := false) (b := true) rfl rfl rfl rfl) (by kernel_rfl) rfl
              · refine ob_val (want_is hE (g := 66) (x := false) (b := false) rfl rfl rfl rfl) (by kernel_rfl) (fun ph w' hp hm hw => ?_)
                have e101 : A.tmps[101]? = some (.bool false) := hE.dst 72 _ 101 rfl rfl; have e110 : A.tmps[110]? = some (undef) := hE.dst 81 _ 110 rfl rfl; simp [execOp, e101, e110, go_sem]
              · refine ob_val (want_none rfl) (by kernel_rfl) (fun ph w' hp hm hw => ?_)
                have e95 : A.tmps[95]? = some (.bool false) := hE.dst 66 _ 95 rfl rfl; have e111 : A.tmps[111]? = some (.bool false) := hE.dst 82 _ 111 rfl rfl; simp [execOp, e95, e111, go_sem]
            · intro w' ⟨hb', ha', hb2⟩
              simp only [laid, Act.put, List.setIfInBounds_toArray, List.set_cons_succ, List.set_cons_zero, List.getD_cons_succ, List.getD_cons_zero, Nat.zero_add, Nat.reduceAdd]
              go_wp2_with fail
              exact ⟨⟨k + 1, none, by omega, by go_num, ha', hb2, hb'⟩, by simp [intOf]; omega⟩
          · go_wp2_with fail
            simp only [List.append]
            refine wp_region_plan (fun i => ([.slice (some ⟨b, off, none⟩) len cap, .int .i64 (k : Int), .pointer (some ⟨b, off + k * 2, none⟩), .pointer (some ⟨b, off + k * 2, none⟩), .int .i64 1, .bool false, .bool false, undef, undef, undef, undef, undef, undef, undef, undef, undef, undef, undef, undef, undef, undef, undef, .bool false, .bool false, .slice (some ⟨b, off, none⟩) len cap, .int .i64 (k : Int), .pointer (some ⟨b, off + k * 2, none⟩), .pointer (some ⟨b, off + k * 2, none⟩), .int .i64 1, .bool true, .bool true, .pointer (some ⟨w.heap.size, 0, none⟩), .slice (some ⟨b, off, none⟩) len cap, .int .i64 (k : Int), .pointer (some ⟨b, off + k * 2, none⟩), .pointer (some ⟨b, off + k * 2 + 1, none⟩), .int .i64 q, .string (tx (textOf st q)), .pointer (some ⟨w.heap.size + 1, 0, none⟩), .slice (some ⟨b, off, none⟩) len cap, .int .i64 (k : Int), .pointer (some ⟨b, off + k * 2, none⟩), .pointer (some ⟨b, off + k * 2 + 1, none⟩), .int .i64 q, .string (tx (textOf st q)), .bool false, .bool false, .bool false, .bool false, .pointer (some ⟨w.heap.size, 0, none⟩), .pointer (some ⟨w.heap.size, 0, none⟩), .pointer (some ⟨w.heap.size, 1, none⟩), .bool false, .pointer (some ⟨w.heap.size + 1, 0, none⟩), .pointer (some ⟨w.heap.size + 1, 0, none⟩), .pointer (some ⟨w.heap.size + 1, 1, none⟩), .bool false, .bool false, .bool false, .bool false, .pointer (some ⟨w.heap.size, 0, none⟩), .bool (doneOf (some r)), .pointer (some ⟨w.heap.size + 1, 0, none⟩), .bool (doneOf (some r)), .bool false, .bool false, .bool false, .pointer (some ⟨w.heap.size, 0, none⟩), .pointer (some ⟨w.heap.size, 0, none⟩), .pointer (some ⟨w.heap.size, 1, none⟩), .bool false, .bool true, .bool true, .pointer (some ⟨w.heap.size, 0, none⟩), .pointer (some ⟨w.heap.size, 0, none⟩), .pointer (some ⟨w.heap.size, 0, none⟩), .string (tx r), .pointer (some ⟨w.heap.size + 1, 0, none⟩), .pointer (some ⟨w.heap.size + 1, 0, none⟩), .pointer (some ⟨w.heap.size + 1, 0, none⟩), .string (tx r), .bool false, .bool false, .bool false] : List Value).getD i undef) [37, 44, 61, 63] [0, 0, 0, 0, 0, 0, 0, 0, 0, 0, 0, 0, 0, 0, 0, 0, 0, 0, 0, 0, 0, 0, 0, 0, 0, 0, 0, 0, 0, 0, 0, 0, 0, 0, 0, 0, 0, 0, 0, 0, 0, 0, 0, 0, 1, 2, 2, 2, 2, 2, 2, 2, 2, 2, 2, 2, 2, 2, 2, 2, 2, 2, 2, 3, 4, 4, 4, 4, 4, 4, 4, 4, 4, 4, 4, 4, 4, 4, 4, 4, 4, 4, 4, 4] (fun ph w' => Below w.heap.size w w' ∧ At w' w.heap.size 500 (if 1 ≤ ph then (some r) else st) ∧ At w' (w.heap.size + 1) 500 (if 2 ≤ ph then (some r) else st)) (by kernel_rfl) (by kernel_rfl) ⟨B.drew, hA.keep rfl, hB.keep rfl⟩ ?_ ?_
            · refine Obs_of_ends (by kernel_rfl) ?_
              intro A hE
              refine ⟨?_, ?_, ?_, ?_, ?_, ?_, ?_, ?_, ?_, ?_, ?_, ?_, ?_, ?_, ?_, ?_, ?_, ?_, ?_, ?_, ?_, ?_, ?_, ?_, ?_, ?_, ?_, ?_, ?_, ?_, ?_, ?_, ?_, ?_, ?_, ?_, ?_, ?_, ?_, ?_, ?_, ?_, ?_, ?_, ?_, ?_, ?_, ?_, ?_, ?_, ?_, ?_, ?_, ?_, ?_, ?_, ?_, ?_, ?_, ?_, ?_, ?_, ?_, ?_, ?_, ?_, ?_, ?_, ?_, ?_, ?_, ?_, ?_, ?_, ?_, ?_, ?_, ?_, ?_, ?_, ?_, ?_, ?_, ?_, trivial⟩
              · exact ob_move _ rfl (want_none rfl) (by kernel_rfl) (eval_out hE (d := 1) (by kernel_rfl))
              · exact ob_move _ rfl (want_none rfl) (by kernel_rfl) (eval_out hE (d := 7) (by kernel_rfl))
              · refine ob_val (want_none rfl) (by kernel_rfl) (fun ph w' hp hm hw => ?_)
                have e29 : A.tmps[29]? = some (.slice (some ⟨b, off, none⟩) len cap) := hE.dst 0 _ 29 rfl rfl; have e30 : A.tmps[30]? = some (.int .i64 (k : Int)) := hE.dst 1 _ 30 rfl rfl; simp [execOp, e29, e30, hi, hge, go_sem]
              · refine ob_val (want_none rfl) (by kernel_rfl) (fun ph w' hp hm hw => ?_)
                have e31 : A.tmps[31]? = some (.pointer (some ⟨b, off + k * 2, none⟩)) := hE.dst 2 _ 31 rfl rfl; simp [execOp, e31, go_sem]
              · refine ob_val (want_none rfl) (by kernel_rfl) (fun ph w' hp hm hw => ?_)
                have hc := (hw.1.cell (p := ⟨b, off + k * 2, none⟩) hbn).trans hc0; have e32 : A.tmps[32]? = some (.pointer (some ⟨b, off + k * 2, none⟩)) := hE.dst 3 _ 32 rfl rfl; simp [execOp, e32, hc, go_sem]
              · refine ob_val (want_none rfl) (by kernel_rfl) (fun ph w' hp hm hw => ?_)
                have e33 : A.tmps[33]? = some (.int .i64 1) := hE.dst 4 _ 33 rfl rfl; simp [execOp, e33, go_sem]
              · exact ob_move _ rfl (want_none rfl) (by kernel_rfl) (eval_dst hE (j := 5) rfl rfl)
              · exact ob_skip (want_is hE (g := 6) (x := false) (b := true) rfl rfl rfl rfl) (by kernel_rfl) rfl
              · exact ob_skip (want_is hE (g := 6) (x := false) (b := true) rfl rfl rfl rfl) (by kernel_rfl) rfl
              · exact ob_skip (want_is hE (g := 6) (x := false) (b := true) rfl rfl rfl rfl) (by kernel_rfl) rfl
              · exact ob_skip (want_is hE (g := 6) (x := false) (b := true) rfl rfl rfl rfl) (by kernel_rfl) rfl
              · exact ob_skip (want_is hE (g := 6) (x := false) (b := true) rfl rfl rfl rfl) (by kernel_rfl) rfl
              · exact ob_skip (want_is hE (g := 6) (x := false) (b := true) rfl rfl rfl rfl) (by kernel_rfl) rfl
              · exact ob_skip (want_is hE (g := 6) (x := false) (b := true) rfl rfl rfl rfl) (by kernel_rfl) rfl
              · exact ob_skip (want_is hE (g := 6) (x := false) (b := true) rfl rfl rfl rfl) (by kernel_rfl) rfl
              · exact ob_skip (want_is hE (g := 6) (x := false) (b := true) rfl rfl rfl rfl) (by kernel_rfl) rfl
              · exact ob_skip (want_is hE (g := 6) (x := false) (b := true) rfl rfl rfl rfl) (by kernel_rfl) rfl
              · exact ob_skip (want_is hE (g := 6) (x := false) (b := true) rfl rfl rfl rfl) (by kernel_rfl) rfl
              · exact ob_skip (want_is hE (g := 6) (x := false) (b := true) rfl rfl rfl rfl) (by kernel_rfl) rfl
              · exact ob_skip (want_is hE (g := 6) (x := false) (b := true) rfl rfl rfl rfl) (by kernel_rfl) rfl
              · exact ob_skip (want_is hE (g := 6) (x := false) (b := true) rfl rfl rfl rfl) (by kernel_rfl) rfl
              · exact ob_skip (want_is hE (g := 6) (x := false) (b := true) rfl rfl rfl rfl) (by kernel_rfl) rfl
              · refine ob_val (want_none rfl) (by kernel_rfl) (fun ph w' hp hm hw => ?_)
                have e35 : A.tmps[35]? = some (.bool false) := hE.dst 6 _ 35 rfl rfl; have e50 : A.tmps[50]? = some (undef) := hE.dst 21 _ 50 rfl rfl; simp [execOp, e35, e50, go_sem]
              · exact ob_move _ rfl (want_none rfl) (by kernel_rfl) (eval_dst hE (j := 22) rfl rfl)
              · exact ob_move _ rfl (want_is hE (g := 23) (x := false) (b := false) rfl rfl rfl rfl) (by kernel_rfl) (eval_out hE (d := 1) (by kernel_rfl))
              · exact ob_move _ rfl (want_is hE (g := 23) (x := false) (b := false) rfl rfl rfl rfl) (by kernel_rfl) (eval_out hE (d := 7) (by kernel_rfl))
              · refine ob_val (want_is hE (g := 23) (x := false) (b := false) rfl rfl rfl rfl) (by kernel_rfl) (fun ph w' hp hm hw => ?_)
                have e53 : A.tmps[53]? = some (.slice (some ⟨b, off, none⟩) len cap) := hE.dst 24 _ 53 rfl rfl; have e54 : A.tmps[54]? = some (.int .i64 (k : Int)) := hE.dst 25 _ 54 rfl rfl; simp [execOp, e53, e54, hi, hge, go_sem]
              · refine ob_val (want_is hE (g := 23) (x := false) (b := false) rfl rfl rfl rfl) (by kernel_rfl) (fun ph w' hp hm hw => ?_)
                have e55 : A.tmps[55]? = some (.pointer (some ⟨b, off + k * 2, none⟩)) := hE.dst 26 _ 55 rfl rfl; simp [execOp, e55, go_sem]
              · refine ob_val (want_is hE (g := 23) (x := false) (b := false) rfl rfl rfl rfl) (by kernel_rfl) (fun ph w' hp hm hw => ?_)
                have hc := (hw.1.cell (p := ⟨b, off + k * 2, none⟩) hbn).trans hc0; have e56 : A.tmps[56]? = some (.pointer (some ⟨b, off + k * 2, none⟩)) := hE.dst 27 _ 56 rfl rfl; simp [execOp, e56, hc, go_sem]
              · refine ob_val (want_is hE (g := 23) (x := false) (b := false) rfl rfl rfl rfl) (by kernel_rfl) (fun ph w' hp hm hw => ?_)
                have e57 : A.tmps[57]? = some (.int .i64 1) := hE.dst 28 _ 57 rfl rfl; simp [execOp, e57, go_sem]
              · exact ob_move _ rfl (want_is hE (g := 23) (x := false) (b := false) rfl rfl rfl rfl) (by kernel_rfl) (eval_dst hE (j := 29) rfl rfl)
              · exact ob_move _ rfl (want_is hE (g := 30) (x := true) (b := true) rfl rfl rfl rfl) (by kernel_rfl) (eval_out hE (d := 5) (by kernel_rfl))
              · exact ob_move _ rfl (want_is hE (g := 30) (x := true) (b := true) rfl rfl rfl rfl) (by kernel_rfl) (eval_out hE (d := 1) (by kernel_rfl))
              · exact ob_move _ rfl (want_is hE (g := 30) (x := true) (b := true) rfl rfl rfl rfl) (by kernel_rfl) (eval_out hE (d := 7) (by kernel_rfl))
              · refine ob_val (want_is hE (g := 30) (x := true) (b := true) rfl rfl rfl rfl) (by kernel_rfl) (fun ph w' hp hm hw => ?_)
                have e61 : A.tmps[61]? = some (.slice (some ⟨b, off, none⟩) len cap) := hE.dst 32 _ 61 rfl rfl; have e62 : A.tmps[62]? = some (.int .i64 (k : Int)) := hE.dst 33 _ 62 rfl rfl; simp [execOp, e61, e62, hi, hge, go_sem]
              · refine ob_val (want_is hE (g := 30) (x := true) (b := true) rfl rfl rfl rfl) (by kernel_rfl) (fun ph w' hp hm hw => ?_)
                have e63 : A.tmps[63]? = some (.pointer (some ⟨b, off + k * 2, none⟩)) := hE.dst 34 _ 63 rfl rfl; simp [execOp, e63, go_sem]
              · refine ob_val (want_is hE (g := 30) (x := true) (b := true) rfl rfl rfl rfl) (by kernel_rfl) (fun ph w' hp hm hw => ?_)
                have hc := (hw.1.cell (p := ⟨b, off + k * 2 + 1, none⟩) hbn).trans hc1; have e64 : A.tmps[64]? = some (.pointer (some ⟨b, off + k * 2 + 1, none⟩)) := hE.dst 35 _ 64 rfl rfl; simp [execOp, e64, hc, go_sem]
              · refine ob_call (q := 0) (f := 14) (args := #[.pointer (some ⟨w.heap.size, 0, none⟩), .int .i64 q]) (want_is hE (g := 30) (x := true) (b := true) rfl rfl rfl rfl) (by kernel_rfl) (fun w' => by have e60 : A.tmps[60]? = some (.pointer (some ⟨w.heap.size, 0, none⟩)) := hE.dst 31 _ 60 rfl rfl; have e65 : A.tmps[65]? = some (.int .i64 q) := hE.dst 36 _ 65 rfl rfl; simp [e60, e65, go_sem]) ?_
                rintro w' ⟨hb', ha', hb2⟩
                refine (leftText_st w.heap.size 500 st q w' ha' (by omega)).mono ?_
                rintro e w2 ⟨rfl, h1, h2⟩
                exact ⟨rfl, hb'.trans (h2.below (Nat.le_refl _)), hst ▸ h1, hb2.only h2 (by omega)⟩
              · exact ob_move _ rfl (want_is hE (g := 30) (x := true) (b := true) rfl rfl rfl rfl) (by kernel_rfl) (eval_out hE (d := 6) (by kernel_rfl))
              · exact ob_move _ rfl (want_is hE (g := 30) (x := true) (b := true) rfl rfl rfl rfl) (by kernel_rfl) (eval_out hE (d := 1) (by kernel_rfl))
              · exact ob_move _ rfl (want_is hE (g := 30) (x := true) (b := true) rfl rfl rfl rfl) (by kernel_rfl) (eval_out hE (d := 7) (by kernel_rfl))
              · refine ob_val (want_is hE (g := 30) (x := true) (b := true) rfl rfl rfl rfl) (by kernel_rfl) (fun ph w' hp hm hw => ?_)
                have e68 : A.tmps[68]? = some (.slice (some ⟨b, off, none⟩) len cap) := hE.dst 39 _ 68 rfl rfl; have e69 : A.tmps[69]? = some (.int .i64 (k : Int)) := hE.dst 40 _ 69 rfl rfl; simp [execOp, e68, e69, hi, hge, go_sem]
              · refine ob_val (want_is hE (g := 30) (x := true) (b := true) rfl rfl rfl rfl) (by kernel_rfl) (fun ph w' hp hm hw => ?_)
                have e70 : A.tmps[70]? = some (.pointer (some ⟨b, off + k * 2, none⟩)) := hE.dst 41 _ 70 rfl rfl; simp [execOp, e70, go_sem]
              · refine ob_val (want_is hE (g := 30) (x := true) (b := true) rfl rfl rfl rfl) (by kernel_rfl) (fun ph w' hp hm hw => ?_)
                have hc := (hw.1.cell (p := ⟨b, off + k * 2 + 1, none⟩) hbn).trans hc1; have e71 : A.tmps[71]? = some (.pointer (some ⟨b, off + k * 2 + 1, none⟩)) := hE.dst 42 _ 71 rfl rfl; simp [execOp, e71, hc, go_sem]
              · refine ob_call (q := 1) (f := 15) (args := #[.pointer (some ⟨w.heap.size + 1, 0, none⟩), .int .i64 q]) (want_is hE (g := 30) (x := true) (b := true) rfl rfl rfl rfl) (by kernel_rfl) (fun w' => by have e67 : A.tmps[67]? = some (.pointer (some ⟨w.heap.size + 1, 0, none⟩)) := hE.dst 38 _ 67 rfl rfl; have e72 : A.tmps[72]? = some (.int .i64 q) := hE.dst 43 _ 72 rfl rfl; simp [e67, e72, go_sem]) ?_
                rintro w' ⟨hb', ha', hb2⟩
                refine (rleftText_st (w.heap.size + 1) 500 st q w' hb2 (by omega)).mono ?_
                rintro e w2 ⟨rfl, h1, h2⟩
                exact ⟨rfl, hb'.trans (h2.below (by omega)), ha'.only h2 (by omega), hst ▸ h1⟩
              · refine ob_val (want_is hE (g := 30) (x := true) (b := true) rfl rfl rfl rfl) (by kernel_rfl) (fun ph w' hp hm hw => ?_)
                have e66 : A.tmps[66]? = some (.string (tx (textOf st q))) := hE.dst 37 _ 66 rfl rfl; have e73 : A.tmps[73]? = some (.string (tx (textOf st q))) := hE.dst 44 _ 73 rfl rfl; simp [execOp, e66, e73, go_sem]
              · refine ob_val (want_is hE (g := 23) (x := false) (b := false) rfl rfl rfl rfl) (by kernel_rfl) (fun ph w' hp hm hw => ?_)
                have e59 : A.tmps[59]? = some (.bool true) := hE.dst 30 _ 59 rfl rfl; have e74 : A.tmps[74]? = some (.bool false) := hE.dst 45 _ 74 rfl rfl; simp [execOp, e59, e74, go_sem]
              · refine ob_val (want_none rfl) (by kernel_rfl) (fun ph w' hp hm hw => ?_)
                have e52 : A.tmps[52]? = some (.bool false) := hE.dst 23 _ 52 rfl rfl; have e75 : A.tmps[75]? = some (.bool false) := hE.dst 46 _ 75 rfl rfl; simp [execOp, e52, e75, go_sem]
              · exact ob_move _ rfl (want_none rfl) (by kernel_rfl) (eval_dst hE (j := 47) rfl rfl)
              · exact ob_move _ rfl (want_is hE (g := 48) (x := false) (b := false) rfl rfl rfl rfl) (by kernel_rfl) (eval_out hE (d := 5) (by kernel_rfl))
              · refine ob_val (want_is hE (g := 48) (x := false) (b := false) rfl rfl rfl rfl) (by kernel_rfl) (fun ph w' hp hm hw => ?_)
                have e78 : A.tmps[78]? = some (.pointer (some ⟨w.heap.size, 0, none⟩)) := hE.dst 49 _ 78 rfl rfl; simp [execOp, e78, go_sem]
              · refine ob_val (want_is hE (g := 48) (x := false) (b := false) rfl rfl rfl rfl) (by kernel_rfl) (fun ph w' hp hm hw => ?_)
                have e79 : A.tmps[79]? = some (.pointer (some ⟨w.heap.size, 0, none⟩)) := hE.dst 50 _ 79 rfl rfl; simp [execOp, e79, go_sem]
              · refine ob_val (want_is hE (g := 48) (x := false) (b := false) rfl rfl rfl rfl) (by kernel_rfl) (fun ph w' hp hm hw => ?_)
                have hat : At w' w.heap.size 500 (some r) := by have h2 := hw.2.1; rwa [if_pos (show 1 ≤ ph from Nat.le_trans (by decide) hp)] at h2
                have hc := hat.1.g; have e80 : A.tmps[80]? = some (.pointer (some ⟨w.heap.size, 1, none⟩)) := hE.dst 51 _ 80 rfl rfl; simp [execOp, e80, hc, go_sem]
              · exact ob_move _ rfl (want_is hE (g := 48) (x := false) (b := false) rfl rfl rfl rfl) (by kernel_rfl) (eval_out hE (d := 6) (by kernel_rfl))
              · refine ob_val (want_is hE (g := 48) (x := false) (b := false) rfl rfl rfl rfl) (by kernel_rfl) (fun ph w' hp hm hw => ?_)
                have e82 : A.tmps[82]? = some (.pointer (some ⟨w.heap.size + 1, 0, none⟩)) := hE.dst 53 _ 82 rfl rfl; simp [execOp, e82, go_sem]
              · refine ob_val (want_is hE (g := 48) (x := false) (b := false) rfl rfl rfl rfl) (by kernel_rfl) (fun ph w' hp hm hw => ?_)
                have e83 : A.tmps[83]? = some (.pointer (some ⟨w.heap.size + 1, 0, none⟩)) := hE.dst 54 _ 83 rfl rfl; simp [execOp, e83, go_sem]
              · refine ob_val (want_is hE (g := 48) (x := false) (b := false) rfl rfl rfl rfl) (by kernel_rfl) (fun ph w' hp hm hw => ?_)
                have hat : At w' (w.heap.size + 1) 500 (some r) := by have h2 := hw.2.2; rwa [if_pos (show 2 ≤ ph from Nat.le_trans (by decide) hp)] at h2
                have hc := hat.1.g; have e84 : A.tmps[84]? = some (.pointer (some ⟨w.heap.size + 1, 1, none⟩)) := hE.dst 55 _ 84 rfl rfl; simp [execOp, e84, hc, go_sem]
              · refine ob_val (want_is hE (g := 48) (x := false) (b := false) rfl rfl rfl rfl) (by kernel_rfl) (fun ph w' hp hm hw => ?_)
                have e81 : A.tmps[81]? = some (.bool false) := hE.dst 52 _ 81 rfl rfl; have e85 : A.tmps[85]? = some (.bool false) := hE.dst 56 _ 85 rfl rfl; simp [execOp, e81, e85, go_sem]
              · refine ob_val (want_none rfl) (by kernel_rfl) (fun ph w' hp hm hw => ?_)
                have e77 : A.tmps[77]? = some (.bool false) := hE.dst 48 _ 77 rfl rfl; have e86 : A.tmps[86]? = some (.bool false) := hE.dst 57 _ 86 rfl rfl; simp [execOp, e77, e86, go_sem]
              · exact ob_move _ rfl (want_none rfl) (by kernel_rfl) (eval_dst hE (j := 58) rfl rfl)
              · exact ob_move _ rfl (want_is hE (g := 59) (x := false) (b := false) rfl rfl rfl rfl) (by kernel_rfl) (eval_out hE (d := 5) (by kernel_rfl))
              · refine ob_call (q := 2) (f := 16) (args := #[.pointer (some ⟨w.heap.size, 0, none⟩)]) (want_is hE (g := 59) (x := false) (b := false) rfl rfl rfl rfl) (by kernel_rfl) (fun w' => by have e89 : A.tmps[89]? = some (.pointer (some ⟨w.heap.size, 0, none⟩)) := hE.dst 60 _ 89 rfl rfl; simp [e89, go_sem]) ?_
                rintro w' ⟨hb', ha', hb2⟩
                refine (leftDone_st w.heap.size 500 (some r) w' ha').mono ?_
                rintro e w2 ⟨rfl, rfl⟩
                exact ⟨rfl, hb', ha', hb2⟩
              · exact ob_move _ rfl (want_is hE (g := 59) (x := false) (b := false) rfl rfl rfl rfl) (by kernel_rfl) (eval_out hE (d := 6) (by kernel_rfl))
              · refine ob_call (q := 3) (f := 17) (args := #[.pointer (some ⟨w.heap.size + 1, 0, none⟩)]) (want_is hE (g := 59) (x := false) (b := false) rfl rfl rfl rfl) (by kernel_rfl) (fun w' => by have e91 : A.tmps[91]? = some (.pointer (some ⟨w.heap.size + 1, 0, none⟩)) := hE.dst 62 _ 91 rfl rfl; simp [e91, go_sem]) ?_
                rintro w' ⟨hb', ha', hb2⟩
                refine (rleftDone_st (w.heap.size + 1) 500 (some r) w' hb2).mono ?_
                rintro e w2 ⟨rfl, rfl⟩
                exact ⟨rfl, hb', ha', hb2⟩
              · refine ob_val (want_is hE (g := 59) (x := false) (b := false) rfl rfl rfl rfl) (by kernel_rfl) (fun ph w' hp hm hw => ?_)
                have e90 : A.tmps[90]? = some (.bool (doneOf (some r))) := hE.dst 61 _ 90 rfl rfl; have e92 : A.tmps[92]? = some (.bool (doneOf (some r))) := hE.dst 63 _ 92 rfl rfl; simp [execOp, e90, e92, go_sem]
              · refine ob_val (want_none rfl) (by kernel_rfl) (fun ph w' hp hm hw => ?_)
                have e88 : A.tmps[88]? = some (.bool false) := hE.dst 59 _ 88 rfl rfl; have e93 : A.tmps[93]? = some (.bool false) := hE.dst 64 _ 93 rfl rfl; simp [execOp, e88, e93, go_sem]
              · exact ob_move _ rfl (want_none rfl) (by kernel_rfl) (eval_dst hE (j := 65) rfl rfl)
              · exact ob_move _ rfl (want_is hE (g := 66) (x := false) (b := false) rfl rfl rfl rfl) (by kernel_rfl) (eval_out hE (d := 5) (by kernel_rfl))
              · refine ob_val (want_is hE (g := 66) (x := false) (b := false) rfl rfl rfl rfl) (by kernel_rfl) (fun ph w' hp hm hw => ?_)
                have e96 : A.tmps[96]? = some (.pointer (some ⟨w.heap.size, 0, none⟩)) := hE.dst 67 _ 96 rfl rfl; simp [execOp, e96, go_sem]
              · refine ob_val (want_is hE (g := 66) (x := false) (b := false) rfl rfl rfl rfl) (by kernel_rfl) (fun ph w' hp hm hw => ?_)
                have e97 : A.tmps[97]? = some (.pointer (some ⟨w.heap.size, 0, none⟩)) := hE.dst 68 _ 97 rfl rfl; simp [execOp, e97, go_sem]
              · refine ob_val (want_is hE (g := 66) (x := false) (b := false) rfl rfl rfl rfl) (by kernel_rfl) (fun ph w' hp hm hw => ?_)
                have hat : At w' w.heap.size 500 (some r) := by have h2 := hw.2.1; rwa [if_pos (show 1 ≤ ph from Nat.le_trans (by decide) hp)] at h2
                have hc := hat.1.g; have e98 : A.tmps[98]? = some (.pointer (some ⟨w.heap.size, 1, none⟩)) := hE.dst 69 _ 98 rfl rfl; simp [execOp, e98, hc, go_sem]
              · refine ob_val (want_is hE (g := 66) (x := false) (b := false) rfl rfl rfl rfl) (by kernel_rfl) (fun ph w' hp hm hw => ?_)
                have e99 : A.tmps[99]? = some (.bool false) := hE.dst 70 _ 99 rfl rfl; simp [execOp, e99, go_sem]
              · exact ob_move _ rfl (want_is hE (g := 66) (x := false) (b := false) rfl rfl rfl rfl) (by kernel_rfl) (eval_dst hE (j := 71) rfl rfl)
              · exact ob_move _ rfl (want_is hE (g := 72) (x := true) (b := true) rfl rfl rfl rfl) (by kernel_rfl) (eval_out hE (d := 5) (by kernel_rfl))
              · refine ob_val (want_is hE (g := 72) (x := true) (b := true) rfl rfl rfl rfl) (by kernel_rfl) (fun ph w' hp hm hw => ?_)
                have e102 : A.tmps[102]? = some (.pointer (some ⟨w.heap.size, 0, none⟩)) := hE.dst 73 _ 102 rfl rfl; simp [execOp, e102, go_sem]
              · refine ob_val (want_is hE (g := 72) (x := true) (b := true) rfl rfl rfl rfl) (by kernel_rfl) (fun ph w' hp hm hw => ?_)
                have e103 : A.tmps[103]? = some (.pointer (some ⟨w.heap.size, 0, none⟩)) := hE.dst 74 _ 103 rfl rfl; simp [execOp, e103, go_sem]
              · refine ob_val (want_is hE (g := 72) (x := true) (b := true) rfl rfl rfl rfl) (by kernel_rfl) (fun ph w' hp hm hw => ?_)
                have hat : At w' w.heap.size 500 (some r) := by have h2 := hw.2.1; rwa [if_pos (show 1 ≤ ph from Nat.le_trans (by decide) hp)] at h2
                have hc := hat.1.s; have e104 : A.tmps[104]? = some (.pointer (some ⟨w.heap.size, 0, none⟩)) := hE.dst 75 _ 104 rfl rfl; simp [execOp, e104, hc, go_sem]
              · exact ob_move _ rfl (want_is hE (g := 72) (x := true) (b := true) rfl rfl rfl rfl) (by kernel_rfl) (eval_out hE (d := 6) (by kernel_rfl))
              · refine ob_val (want_is hE (g := 72) (x := true) (b := true) rfl rfl rfl rfl) (by kernel_rfl) (fun ph w' hp hm hw => ?_)
                have e106 : A.tmps[106]? = some (.pointer (some ⟨w.heap.size + 1, 0, none⟩)) := hE.dst 77 _ 106 rfl rfl; simp [execOp, e106, go_sem]
              · refine ob_val (want_is hE (g := 72) (x := true) (b := true) rfl rfl rfl rfl) (by kernel_rfl) (fun ph w' hp hm hw => ?_)
                have e107 : A.tmps[107]? = some (.pointer (some ⟨w.heap.size + 1, 0, none⟩)) := hE.dst 78 _ 107 rfl rfl; simp [execOp, e107, go_sem]
              · refine ob_val (want_is hE (g := 72) (x := true) (b := true) rfl rfl rfl rfl) (by kernel_rfl) (fun ph w' hp hm hw => ?_)
                have hat : At w' (w.heap.size + 1) 500 (some r) := by have h2 := hw.2.2; rwa [if_pos (show 2 ≤ ph from Nat.le_trans (by decide) hp)] at h2
                have hc := hat.1.s; have e108 : A.tmps[108]? = some (.pointer (some ⟨w.heap.size + 1, 0, none⟩)) := hE.dst 79 _ 108 rfl rfl; simp [execOp, e108, hc, go_sem]
              · refine ob_val (want_is hE (g := 72) (x := true) (b := true) rfl rfl rfl rfl) (by kernel_rfl) (fun ph w' hp hm hw => ?_)
                have e105 : A.tmps[105]? = some (.string (tx r)) := hE.dst 76 _ 105 rfl rfl; have e109 : A.tmps[109]? = some (.string (tx r)) := hE.dst 80 _ 109 rfl rfl; simp [execOp, e105, e109, go_sem]
              · refine ob_val (want_is hE (g := 66) (x := false) (b := false) rfl rfl rfl rfl) (by kernel_rfl) (fun ph w' hp hm hw => ?_)
                have e101 : A.tmps[101]? = some (.bool true) := hE.dst 72 _ 101 rfl rfl; have e110 : A.tmps[110]? = some (.bool false) := hE.dst 81 _ 110 rfl rfl; simp [execOp, e101, e110, go_sem]
              · refine ob_val (want_none rfl) (by kernel_rfl) (fun ph w' hp hm hw => ?_)
                have e95 : A.tmps[95]? = some (.bool false) := hE.dst 66 _ 95 rfl rfl; have e111 : A.tmps[111]? = some (.bool false) := hE.dst 82 _ 111 rfl rfl; simp [execOp, e95, e111, go_sem]
            · intro w' ⟨hb', ha', hb2⟩
              simp only [laid, Act.put, List.setIfInBounds_toArray, List.set_cons_succ, List.set_cons_zero, List.getD_cons_succ, List.getD_cons_zero, Nat.zero_add, Nat.reduceAdd]
              go_wp2_with fail
              exact ⟨⟨k + 1, (some r), by omega, by go_num, ha', hb2, hb'⟩, by simp [intOf]; omega⟩
        · have hp0 := hp0'
          have hp1 := hp1'
          clear hp0' hp1'
          rcases hst : st with _ | r
          · go_wp2_with fail
            simp only [List.append]
            refine wp_region_plan (fun i => ([.slice (some ⟨b, off, none⟩) len cap, .int .i64 (k : Int), .pointer (some ⟨b, off + k * 2, none⟩), .pointer (some ⟨b, off + k * 2, none⟩), .int .i64 p, .bool false, .bool false, undef, undef, undef, undef, undef, undef, undef, undef, undef, undef, undef, undef, undef, undef, undef, .bool false, .bool false, .slice (some ⟨b, off, none⟩) len cap, .int .i64 (k : Int), .pointer (some ⟨b, off + k * 2, none⟩), .pointer (some ⟨b, off + k * 2, none⟩), .int .i64 p, .bool false, .bool false, undef, undef, undef, undef, undef, undef, undef, undef, undef, undef, undef, undef, undef, undef, undef, .bool false, .bool false, .bool false, .pointer (some ⟨w.heap.size, 0, none⟩), .pointer (some ⟨w.heap.size, 0, none⟩), .pointer (some ⟨w.heap.size, 1, none⟩), .bool true, .pointer (some ⟨w.heap.size + 1, 0, none⟩), .pointer (some ⟨w.heap.size + 1, 0, none⟩), .pointer (some ⟨w.heap.size + 1, 1, none⟩), .bool true, .bool false, .bool false, .bool false, .pointer (some ⟨w.heap.size, 0, none⟩), .bool (doneOf none), .pointer (some ⟨w.heap.size + 1, 0, none⟩), .bool (doneOf none), .bool false, .bool false, .bool false, .pointer (some ⟨w.heap.size, 0, none⟩), .pointer (some ⟨w.heap.size, 0, none⟩), .pointer (some ⟨w.heap.size, 1, none⟩), .bool true, .bool false, .bool false, undef, undef, undef, undef, undef, undef, undef, undef, undef, .bool false, .bool false] : List Value).getD i undef) [61, 63] [0, 0, 0, 0, 0, 0, 0, 0, 0, 0, 0, 0, 0, 0, 0, 0, 0, 0, 0, 0, 0, 0, 0, 0, 0, 0, 0, 0, 0, 0, 0, 0, 0, 0, 0, 0, 0, 0, 0, 0, 0, 0, 0, 0, 0, 0, 0, 0, 0, 0, 0, 0, 0, 0, 0, 0, 0, 0, 0, 0, 0, 0, 0, 1, 2, 2, 2, 2, 2, 2, 2, 2, 2, 2, 2, 2, 2, 2, 2, 2, 2, 2, 2, 2] (fun ph w' => Below w.heap.size w w' ∧ At w' w.heap.size 500 (if 0 ≤ ph then none else st) ∧ At w' (w.heap.size + 1) 500 (if 0 ≤ ph then none else st)) (by kernel_rfl) (by kernel_rfl) ⟨B.drew, hst ▸ hA.keep rfl, hst ▸ hB.keep rfl⟩ ?_ ?_
            · refine Obs_of_ends (by kernel_rfl) ?_
              intro A hE
              refine ⟨?_, ?_, ?_, ?_, ?_, ?_, ?_, ?_, ?_, ?_, ?_, ?_, ?_, ?_, ?_, ?_, ?_, ?_, ?_, ?_, ?_, ?_, ?_, ?_, ?_, ?_, ?_, ?_, ?_, ?_, ?_, ?_, ?_, ?_, ?_, ?_, ?_, ?_, ?_, ?_, ?_, ?_, ?_, ?_, ?_, ?_, ?_, ?_, ?_, ?_, ?_, ?_, ?_, ?_, ?_, ?_, ?_, ?_, ?_, ?_, ?_, ?_, ?_, ?_, ?_, ?_, ?_, ?_, ?_, ?_, ?_, ?_, ?_, ?_, ?_, ?_, ?_, ?_, ?_, ?_, ?_, ?_, ?_, ?_, trivial⟩
              · exact ob_move _ rfl (want_none rfl) (by kernel_rfl) (eval_out hE (d := 1) (by kernel_rfl))
              · exact ob_move _ rfl (want_none rfl) (by kernel_rfl) (eval_out hE (d := 7) (by kernel_rfl))
              · refine ob_val (want_none rfl) (by kernel_rfl) (fun ph w' hp hm hw => ?_)
                have e29 : A.tmps[29]? = some (.slice (some ⟨b, off, none⟩) len cap) := hE.dst 0 _ 29 rfl rfl; have e30 : A.tmps[30]? = some (.int .i64 (k : Int)) := hE.dst 1 _ 30 rfl rfl; simp [execOp, e29, e30, hi, hge, go_sem]
              · refine ob_val (want_none rfl) (by kernel_rfl) (fun ph w' hp hm hw => ?_)
                have e31 : A.tmps[31]? = some (.pointer (some ⟨b, off + k * 2, none⟩)) := hE.dst 2 _ 31 rfl rfl; simp [execOp, e31, go_sem]
              · refine ob_val (want_none rfl) (by kernel_rfl) (fun ph w' hp hm hw => ?_)
                have hc := (hw.1.cell (p := ⟨b, off + k * 2, none⟩) hbn).trans hc0; have e32 : A.tmps[32]? = some (.pointer (some ⟨b, off + k * 2, none⟩)) := hE.dst 3 _ 32 rfl rfl; simp [execOp, e32, hc, go_sem]
              · refine ob_val (want_none rfl) (by kernel_rfl) (fun ph w' hp hm hw => ?_)
                have e33 : A.tmps[33]? = some (.int .i64 p) := hE.dst 4 _ 33 rfl rfl; simp [execOp, e33, hp0, go_sem]
              · exact ob_move _ rfl (want_none rfl) (by kernel_rfl) (eval_dst hE (j := 5) rfl rfl)
              · exact ob_skip (want_is hE (g := 6) (x := false) (b := true) rfl rfl rfl rfl) (by kernel_rfl) rfl
              · exact ob_skip (want_is hE (g := 6) (x := false) (b := true) rfl rfl rfl rfl) (by kernel_rfl) rfl
              · exact ob_skip (want_is hE (g := 6) (x := false) (b := true) rfl rfl rfl rfl) (by kernel_rfl) rfl
              · exact ob_skip (want_is hE (g := 6) (x := false) (b := true) rfl rfl rfl rfl) (by kernel_rfl) rfl
              · exact ob_skip (want_is hE (g := 6) (x := false) (b := true) rfl rfl rfl rfl) (by kernel_rfl) rfl
              · exact ob_skip (want_is hE (g := 6) (x := false) (b := true) rfl rfl rfl rfl) (by kernel_rfl) rfl
              · exact ob_skip (want_is hE (g := 6) (x := false) (b := true) rfl rfl rfl rfl) (by kernel_rfl) rfl
              · exact ob_skip (want_is hE (g := 6) (x := false) (b := true) rfl rfl rfl rfl) (by kernel_rfl) rfl
              · exact ob_skip (want_is hE (g := 6) (x := false) (b := true) rfl rfl rfl rfl) (by kernel_rfl) rfl
              · exact ob_skip (want_is hE (g := 6) (x := false) (b := true) rfl rfl rfl rfl) (by kernel_rfl) rfl
              · exact ob_skip (want_is hE (g := 6) (x := false) (b := true) rfl rfl rfl rfl) (by kernel_rfl) rfl
              · exact ob_skip (want_is hE (g := 6) (x := false) (b := true) rfl rfl rfl rfl) (by kernel_rfl) rfl
              · exact ob_skip (want_is hE (g := 6) (x := false) (b := true) rfl rfl rfl rfl) (by kernel_rfl) rfl
              · exact ob_skip (want_is hE (g := 6) (x := false) (b := true) rfl rfl rfl rfl) (by kernel_rfl) rfl
              · exact ob_skip (want_is hE (g := 6) (x := false) (b := true) rfl rfl rfl rfl) (by kernel_rfl) rfl
              · refine ob_val (want_none rfl) (by kernel_rfl) (fun ph w' hp hm hw => ?_)
                have e35 : A.tmps[35]? = some (.bool false) := hE.dst 6 _ 35 rfl rfl; have e50 : A.tmps[50]? = some (undef) := hE.dst 21 _ 50 rfl rfl; simp [execOp, e35, e50, go_sem]
              · exact ob_move _ rfl (want_none rfl) (by kernel_rfl) (eval_dst hE (j := 22) rfl rfl)
              · exact ob_move _ rfl (want_is hE (g := 23) (x := false) (b := false) rfl rfl rfl rfl) (by kernel_rfl) (eval_out hE (d := 1) (by kernel_rfl))
              · exact ob_move _ rfl (want_is hE (g := 23) (x := false) (b := false) rfl rfl rfl rfl) (by kernel_rfl) (eval_out hE (d := 7) (by kernel_rfl))
              · refine ob_val (want_is hE (g := 23) (x := false) (b := false) rfl rfl rfl rfl) (by kernel_rfl) (fun ph w' hp hm hw => ?_)
                have e53 : A.tmps[53]? = some (.slice (some ⟨b, off, none⟩) len cap) := hE.dst 24 _ 53 rfl rfl; have e54 : A.tmps[54]? = some (.int .i64 (k : Int)) := hE.dst 25 _ 54 rfl rfl; simp [execOp, e53, e54, hi, hge, go_sem]
              · refine ob_val (want_is hE (g := 23) (x := false) (b := false) rfl rfl rfl rfl) (by kernel_rfl) (fun ph w' hp hm hw => ?_)
                have e55 : A.tmps[55]? = some (.pointer (some ⟨b, off + k * 2, none⟩)) := hE.dst 26 _ 55 rfl rfl; simp [execOp, e55, go_sem]
              · refine ob_val (want_is hE (g := 23) (x := false) (b := false) rfl rfl rfl rfl) (by kernel_rfl) (fun ph w' hp hm hw => ?_)
                have hc := (hw.1.cell (p := ⟨b, off + k * 2, none⟩) hbn).trans hc0; have e56 : A.tmps[56]? = some (.pointer (some ⟨b, off + k * 2, none⟩)) := hE.dst 27 _ 56 rfl rfl; simp [execOp, e56, hc, go_sem]
              · refine ob_val (want_is hE (g := 23) (x := false) (b := false) rfl rfl rfl rfl) (by kernel_rfl) (fun ph w' hp hm hw => ?_)
                have e57 : A.tmps[57]? = some (.int .i64 p) := hE.dst 28 _ 57 rfl rfl; simp [execOp, e57, hp1, go_sem]
              · exact ob_move _ rfl (want_is hE (g := 23) (x := false) (b := false) rfl rfl rfl rfl) (by kernel_rfl) (eval_dst hE (j := 29) rfl rfl)
              · exact ob_skip (want_is hE (g := 30) (x := false) (b := true) rfl rfl rfl rfl) (by kernel_rfl) rfl
              · exact ob_skip (want_is hE (g := 30) (x := false) (b := true) rfl rfl rfl rfl) (by kernel_rfl) rfl
              · exact ob_skip (want_is hE (g := 30) (x := false) (b := true) rfl rfl rfl rfl) (by kernel_rfl) rfl
              · exact ob_skip (want_is hE (g := 30) (x := false) (b := true) rfl rfl rfl rfl) (by kernel_rfl) rfl
              · exact ob_skip (want_is hE (g := 30) (x := false) (b := true) rfl rfl rfl rfl) (by kernel_rfl) rfl
              · exact ob_skip (want_is hE (g := 30) (x := false) (b := true) rfl rfl rfl rfl) (by kernel_rfl) rfl
              · exact ob_skip (want_is hE (g := 30) (x := false) (b := true) rfl rfl rfl rfl) (by kernel_rfl) rfl
              · exact ob_skip (want_is hE (g := 30) (x := false) (b := true) rfl rfl rfl rfl) (by kernel_rfl) rfl
              · exact ob_skip (want_is hE (g := 30) (x := false) (b := true) rfl rfl rfl rfl) (by kernel_rfl) rfl
              · exact ob_skip (want_is hE (g := 30) (x := false) (b := true) rfl rfl rfl rfl) (by kernel_rfl) rfl
              · exact ob_skip (want_is hE (g := 30) (x := false) (b := true) rfl rfl rfl rfl) (by kernel_rfl) rfl
              · exact ob_skip (want_is hE (g := 30) (x := false) (b := true) rfl rfl rfl rfl) (by kernel_rfl) rfl
              · exact ob_skip (want_is hE (g := 30) (x := false) (b := true) rfl rfl rfl rfl) (by kernel_rfl) rfl
              · exact ob_skip (want_is hE (g := 30) (x := false) (b := true) rfl rfl rfl rfl) (by kernel_rfl) rfl
              · exact ob_skip (want_is hE (g := 30) (x := false) (b := true) rfl rfl rfl rfl) (by kernel_rfl) rfl
              · refine ob_val (want_is hE (g := 23) (x := false) (b := false) rfl rfl rfl rfl) (by kernel_rfl) (fun ph w' hp hm hw => ?_)
                have e59 : A.tmps[59]? = some (.bool false) := hE.dst 30 _ 59 rfl rfl; have e74 : A.tmps[74]? = some (undef) := hE.dst 45 _ 74 rfl rfl; simp [execOp, e59, e74, go_sem]
              · refine ob_val (want_none rfl) (by kernel_rfl) (fun ph w' hp hm hw => ?_)
                have e52 : A.tmps[52]? = some (.bool false) := hE.dst 23 _ 52 rfl rfl; have e75 : A.tmps[75]? = some (.bool false) := hE.dst 46 _ 75 rfl rfl; simp [execOp, e52, e75, go_sem]
              · exact ob_move _ rfl (want_none rfl) (by kernel_rfl) (eval_dst hE (j := 47) rfl rfl)
              · exact ob_move _ rfl (want_is hE (g := 48) (x := false) (b := false) rfl rfl rfl rfl) (by kernel_rfl) (eval_out hE (d := 5) (by kernel_rfl))
              · refine ob_val (want_is hE (g := 48) (x := false) (b := false) rfl rfl rfl rfl) (by kernel_rfl) (fun ph w' hp hm hw => ?_)
                have e78 : A.tmps[78]? = some (.pointer (some ⟨w.heap.size, 0, none⟩)) := hE.dst 49 _ 78 rfl rfl; simp [execOp, e78, go_sem]
              · refine ob_val (want_is hE (g := 48) (x := false) (b := false) rfl rfl rfl rfl) (by kernel_rfl) (fun ph w' hp hm hw => ?_)
                have e79 : A.tmps[79]? = some (.pointer (some ⟨w.heap.size, 0, none⟩)) := hE.dst 50 _ 79 rfl rfl; simp [execOp, e79, go_sem]
              · refine ob_val (want_is hE (g := 48) (x := false) (b := false) rfl rfl rfl rfl) (by kernel_rfl) (fun ph w' hp hm hw => ?_)
                have hat : At w' w.heap.size 500 none := by have h2 := hw.2.1; rwa [if_pos (show 0 ≤ ph from Nat.le_trans (by decide) hp)] at h2
                have hc := (BadAt.cell hat); have e80 : A.tmps[80]? = some (.pointer (some ⟨w.heap.size, 1, none⟩)) := hE.dst 51 _ 80 rfl rfl; simp [execOp, e80, hc, go_sem]
              · exact ob_move _ rfl (want_is hE (g := 48) (x := false) (b := false) rfl rfl rfl rfl) (by kernel_rfl) (eval_out hE (d := 6) (by kernel_rfl))
              · refine ob_val (want_is hE (g := 48) (x := false) (b := false) rfl rfl rfl rfl) (by kernel_rfl) (fun ph w' hp hm hw => ?_)
                have e82 : A.tmps[82]? = some (.pointer (some ⟨w.heap.size + 1, 0, none⟩)) := hE.dst 53 _ 82 rfl rfl; simp [execOp, e82, go_sem]
              · refine ob_val (want_is hE (g := 48) (x := false) (b := false) rfl rfl rfl rfl) (by kernel_rfl) (fun ph w' hp hm hw => ?_)
                have e83 : A.tmps[83]? = some (.pointer (some ⟨w.heap.size + 1, 0, none⟩)) := hE.dst 54 _ 83 rfl rfl; simp [execOp, e83, go_sem]
              · refine ob_val (want_is hE (g := 48) (x := false) (b := false) rfl rfl rfl rfl) (by kernel_rfl) (fun ph w' hp hm hw => ?_)
                have hat : At w' (w.heap.size + 1) 500 none := by have h2 := hw.2.2; rwa [if_pos (show 0 ≤ ph from Nat.le_trans (by decide) hp)] at h2
                have hc := (BadAt.cell hat); have e84 : A.tmps[84]? = some (.pointer (some ⟨w.heap.size + 1, 1, none⟩)) := hE.dst 55 _ 84 rfl rfl; simp [execOp, e84, hc, go_sem]
              · refine ob_val (want_is hE (g := 48) (x := false) (b := false) rfl rfl rfl rfl) (by kernel_rfl) (fun ph w' hp hm hw => ?_)
                have e81 : A.tmps[81]? = some (.bool true) := hE.dst 52 _ 81 rfl rfl; have e85 : A.tmps[85]? = some (.bool true) := hE.dst 56 _ 85 rfl rfl; simp [execOp, e81, e85, go_sem]
              · refine ob_val (want_none rfl) (by kernel_rfl) (fun ph w' hp hm hw => ?_)
                have e77 : A.tmps[77]? = some (.bool false) := hE.dst 48 _ 77 rfl rfl; have e86 : A.tmps[86]? = some (.bool false) := hE.dst 57 _ 86 rfl rfl; simp [execOp, e77, e86, go_sem]
              · exact ob_move _ rfl (want_none rfl) (by kernel_rfl) (eval_dst hE (j := 58) rfl rfl)
              · exact ob_move _ rfl (want_is hE (g := 59) (x := false) (b := false) rfl rfl rfl rfl) (by kernel_rfl) (eval_out hE (d := 5) (by kernel_rfl))
              · refine ob_call (q := 0) (f := 16) (args := #[.pointer (some ⟨w.heap.size, 0, none⟩)]) (want_is hE (g := 59) (x := false) (b := false) rfl rfl rfl rfl) (by kernel_rfl) (fun w' => by have e89 : A.tmps[89]? = some (.pointer (some ⟨w.heap.size, 0, none⟩)) := hE.dst 60 _ 89 rfl rfl; simp [e89, go_sem]) ?_
                rintro w' ⟨hb', ha', hb2⟩
                refine (leftDone_st w.heap.size 500 none w' ha').mono ?_
                rintro e w2 ⟨rfl, rfl⟩
                exact ⟨rfl, hb', ha', hb2⟩
              · exact ob_move _ rfl (want_is hE (g := 59) (x := false) (b := false) rfl rfl rfl rfl) (by kernel_rfl) (eval_out hE (d := 6) (by kernel_rfl))
              · refine ob_call (q := 1) (f := 17) (args := #[.pointer (some ⟨w.heap.size + 1, 0, none⟩)]) (want_is hE (g := 59) (x := false) (b := false) rfl rfl rfl rfl) (by kernel_rfl) (fun w' => by have e91 : A.tmps[91]? = some (.pointer (some ⟨w.heap.size + 1, 0, none⟩)) := hE.dst 62 _ 91 rfl rfl; simp [e91, go_sem]) ?_
                rintro w' ⟨hb', ha', hb2⟩
                refine (rleftDone_st (w.heap.size + 1) 500 none w' hb2).mono ?_
                rintro e w2 ⟨rfl, rfl⟩
                exact ⟨rfl, hb', ha', hb2⟩
              · refine ob_val (want_is hE (g := 59) (x := false) (b := false) rfl rfl rfl rfl) (by kernel_rfl) (fun ph w' hp hm hw => ?_)
                have e90 : A.tmps[90]? = some (.bool (doneOf none)) := hE.dst 61 _ 90 rfl rfl; have e92 : A.tmps[92]? = some (.bool (doneOf none)) := hE.dst 63 _ 92 rfl rfl; simp [execOp, e90, e92, go_sem]
              · refine ob_val (want_none rfl) (by kernel_rfl) (fun ph w' hp hm hw => ?_)
                have e88 : A.tmps[88]? = some (.bool false) := hE.dst 59 _ 88 rfl rfl; have e93 : A.tmps[93]? = some (.bool false) := hE.dst 64 _ 93 rfl rfl; simp [execOp, e88, e93, go_sem]
              · exact ob_move _ rfl (want_none rfl) (by kernel_rfl) (eval_dst hE (j := 65) rfl rfl)
              · exact ob_move _ rfl (want_is hE (g := 66) (x := false) (b := false) rfl rfl rfl rfl) (by kernel_rfl) (eval_out hE (d := 5) (by kernel_rfl))
              · refine ob_val (want_is hE (g := 66) (x := false) (b := false) rfl rfl rfl rfl) (by kernel_rfl) (fun ph w' hp hm hw => ?_)
                have e96 : A.tmps[96]? = some (.pointer (some ⟨w.heap.size, 0, none⟩)) := hE.dst 67 _ 96 rfl rfl; simp [execOp, e96, go_sem]
              · refine ob_val (want_is hE (g := 66) (x := false) (b := false) rfl rfl rfl rfl) (by kernel_rfl) (fun ph w' hp hm hw => ?_)
                have e97 : A.tmps[97]? = some (.pointer (some ⟨w.heap.size, 0, none⟩)) := hE.dst 68 _ 97 rfl rfl; simp [execOp, e97, go_sem]
              · refine ob_val (want_is hE (g := 66) (x := false) (b := false) rfl rfl rfl rfl) (by kernel_rfl) (fun ph w' hp hm hw => ?_)
                have hat : At w' w.heap.size 500 none := by have h2 := hw.2.1; rwa [if_pos (show 0 ≤ ph from Nat.le_trans (by decide) hp)] at h2
                have hc := (BadAt.cell hat); have e98 : A.tmps[98]? = some (.pointer (some ⟨w.heap.size, 1, none⟩)) := hE.dst 69 _ 98 rfl rfl; simp [execOp, e98, hc, go_sem]
              · refine ob_val (want_is hE (g := 66) (x := false) (b := false) rfl rfl rfl rfl) (by kernel_rfl) (fun ph w' hp hm hw => ?_)
                have e99 : A.tmps[99]? = some (.bool true) := hE.dst 70 _ 99 rfl rfl; simp [execOp, e99, go_sem]
              · exact ob_move _ rfl (want_is hE (g := 66) (x := false) (b := false) rfl rfl rfl rfl) (by kernel_rfl) (eval_dst hE (j := 71) rfl rfl)
              · exact ob_skip (want_is hE (g := 72) (x := false) (b := true) rfl rfl rfl rfl) (by kernel_rfl) rfl
              · exact ob_skip (want_is hE (g := 72) (x := false) (b := true) rfl rfl rfl rfl) (by kernel_rfl) rfl
              · exact ob_skip (want_is hE (g := 72) (x := false) (b := true) rfl rfl rfl rfl) (by kernel_rfl) rfl
              · exact ob_skip (want_is hE (g := 72) (x := false) (b := true) rfl rfl rfl rfl) (by kernel_rfl) rfl
              · exact ob_skip (want_is hE (g := 72) (x := false) (b := true) rfl rfl rfl rfl) (by kernel_rfl) rfl
              · exact ob_skip (want_is hE (g := 72) (x := false) (b := true) rfl rfl rfl rfl) (by kernel_rfl) rfl
              · exact ob_skip (want_is hE (g := 72) (x := false) (b := true) rfl rfl rfl rfl) (by kernel_rfl) rfl
              · exact ob_skip (want_is hE (g := 72) (x := false) (b := true) rfl rfl rfl rfl) (by kernel_rfl) rfl
              · exact ob_skip (want_is hE (g := 72) (x := false) (b := true) rfl rfl rfl rfl) (by kernel_rfl) rfl
              · refine ob_val (want_is hE (g := 66) (x := false) (b := false) rfl rfl rfl rfl) (by kernel_rfl) (fun ph w' hp hm hw => ?_)
                have e101 : A.tmps[101]? = some (.bool false) := hE.dst 72 _ 101 rfl rfl; have e110 : A.tmps[110]? = some (undef) := hE.dst 81 _ 110 rfl rfl; simp [execOp, e101, e110, go_sem]
              · refine ob_val (want_none rfl) (by kernel_rfl) (fun ph w' hp hm hw => ?_)
                have e95 : A.tmps[95]? = some (.bool false) := hE.dst 66 _ 95 rfl rfl; have e111 : A.tmps[111]? = some (.bool false) := hE.dst 82 _ 111 rfl rfl; simp [execOp, e95, e111, go_sem]
            · intro w' ⟨hb', ha', hb2⟩
              simp only [laid, Act.put, List.setIfInBounds_toArray, List.set_cons_succ, List.set_cons_zero, List.getD_cons_succ, List.getD_cons_zero, Nat.zero_add, Nat.reduceAdd]
              go_wp2_with fail
              exact ⟨⟨k + 1, none, by omega, by go_num, ha', hb2, hb'⟩, by simp [intOf]; omega⟩
          · go_wp2_with fail
            simp only [List.append]
            refine wp_region_plan (fun i => ([.slice (some ⟨b, off, none⟩) len cap, .int .i64 (k : Int), .pointer (some ⟨b, off + k * 2, none⟩), .pointer (some ⟨b, off + k * 2, none⟩), .int .i64 p, .bool false, .bool false, undef, undef, undef, undef, undef, undef, undef, undef, undef, undef, undef, undef, undef, undef, undef, .bool false, .bool false, .slice (some ⟨b, off, none⟩) len cap, .int .i64 (k : Int), .pointer (some ⟨b, off + k * 2, none⟩), .pointer (some ⟨b, off + k * 2, none⟩), .int .i64 p, .bool false, .bool false, undef, undef, undef, undef, undef, undef, undef, undef, undef, undef, undef, undef, undef, undef, undef, .bool false, .bool false, .bool false, .pointer (some ⟨w.heap.size, 0, none⟩), .pointer (some ⟨w.heap.size, 0, none⟩), .pointer (some ⟨w.heap.size, 1, none⟩), .bool false, .pointer (some ⟨w.heap.size + 1, 0, none⟩), .pointer (some ⟨w.heap.size + 1, 0, none⟩), .pointer (some ⟨w.heap.size + 1, 1, none⟩), .bool false, .bool false, .bool false, .bool false, .pointer (some ⟨w.heap.size, 0, none⟩), .bool (doneOf (some r)), .pointer (some ⟨w.heap.size + 1, 0, none⟩), .bool (doneOf (some r)), .bool false, .bool false, .bool false, .pointer (some ⟨w.heap.size, 0, none⟩), .pointer (some ⟨w.heap.size, 0, none⟩), .pointer (some ⟨w.heap.size, 1, none⟩), .bool false, .bool true, .bool true, .pointer (some ⟨w.heap.size, 0, none⟩), .pointer (some ⟨w.heap.size, 0, none⟩), .pointer (some ⟨w.heap.size, 0, none⟩), .string (tx r), .pointer (some ⟨w.heap.size + 1, 0, none⟩), .pointer (some ⟨w.heap.size + 1, 0, none⟩), .pointer (some ⟨w.heap.size + 1, 0, none⟩), .string (tx r), .bool false, .bool false, .bool false] : List Value).getD i undef) [61, 63] [0, 0, 0, 0, 0, 0, 0, 0, 0, 0, 0, 0, 0, 0, 0, 0, 0, 0, 0, 0, 0, 0, 0, 0, 0, 0, 0, 0, 0, 0, 0, 0, 0, 0, 0, 0, 0, 0, 0, 0, 0, 0, 0, 0, 0, 0, 0, 0, 0, 0, 0, 0, 0, 0, 0, 0, 0, 0, 0, 0, 0, 0, 0, 1, 2, 2, 2, 2, 2, 2, 2, 2, 2, 2, 2, 2, 2, 2, 2, 2, 2, 2, 2, 2] (fun ph w' => Below w.heap.size w w' ∧ At w' w.heap.size 500 (if 0 ≤ ph then (some r) else st) ∧ At w' (w.heap.size + 1) 500 (if 0 ≤ ph then (some r) else st)) (by kernel_rfl) (by kernel_rfl) ⟨B.drew, hst ▸ hA.keep rfl, hst ▸ hB.keep rfl⟩ ?_ ?_
            · refine Obs_of_ends (by kernel_rfl) ?_
              intro A hE
              refine ⟨?_, ?_, ?_, ?_, ?_, ?_, ?_, ?_, ?_, ?_, ?_, ?_, ?_, ?_, ?_, ?_, ?_, ?_, ?_, ?_, ?_, ?_, ?_, ?_, ?_, ?_, ?_, ?_, ?_, ?_, ?_, ?_, ?_, ?_, ?_, ?_, ?_, ?_, ?_, ?_, ?_, ?_, ?_, ?_, ?_, ?_, ?_, ?_, ?_, ?_, ?_, ?_, ?_, ?_, ?_, ?_, ?_, ?_, ?_, ?_, ?_, ?_, ?_, ?_, ?_, ?_, ?_, ?_, ?_, ?_, ?_, ?_, ?_, ?_, ?_, ?_, ?_, ?_, ?_, ?_, ?_, ?_, ?_, ?_, trivial⟩
              · exact ob_move _ rfl (want_none rfl) (by kernel_rfl) (eval_out hE (d := 1) (by kernel_rfl))
              · exact ob_move _ rfl (want_none rfl) (by kernel_rfl) (eval_out hE (d := 7) (by kernel_rfl))
              · refine ob_val (want_none rfl) (by kernel_rfl) (fun ph w' hp hm hw => ?_)
                have e29 : A.tmps[29]? = some (.slice (some ⟨b, off, none⟩) len cap) := hE.dst 0 _ 29 rfl rfl; have e30 : A.tmps[30]? = some (.int .i64 (k : Int)) := hE.dst 1 _ 30 rfl rfl; simp [execOp, e29, e30, hi, hge, go_sem]
              · refine ob_val (want_none rfl) (by kernel_rfl) (fun ph w' hp hm hw => ?_)
                have e31 : A.tmps[31]? = some (.pointer (some ⟨b, off + k * 2, none⟩)) := hE.dst 2 _ 31 rfl rfl; simp [execOp, e31, go_sem]
              · refine ob_val (want_none rfl) (by kernel_rfl) (fun ph w' hp hm hw => ?_)
                have hc := (hw.1.cell (p := ⟨b, off + k * 2, none⟩) hbn).trans hc0; have e32 : A.tmps[32]? = some (.pointer (some ⟨b, off + k * 2, none⟩)) := hE.dst 3 _ 32 rfl rfl; simp [execOp, e32, hc, go_sem]
              · refine ob_val (want_none rfl) (by kernel_rfl) (fun ph w' hp hm hw => ?_)
                have e33 : A.tmps[33]? = some (.int .i64 p) := hE.dst 4 _ 33 rfl rfl; simp [execOp, e33, hp0, go_sem]
              · exact ob_move _ rfl (want_none rfl) (by kernel_rfl) (eval_dst hE (j := 5) rfl rfl)
              · exact ob_skip (want_is hE (g := 6) (x := false) (b := true) rfl rfl rfl rfl) (by kernel_rfl) rfl
              · exact ob_skip (want_is hE (g := 6) (x := false) (b := true) rfl rfl rfl rfl) (by kernel_rfl) rfl
              · exact ob_skip (want_is hE (g := 6) (x := false) (b := true) rfl rfl rfl rfl) (by kernel_rfl) rfl
              · exact ob_skip (want_is hE (g := 6) (x := false) (b := true) rfl rfl rfl rfl) (by kernel_rfl) rfl
              · exact ob_skip (want_is hE (g := 6) (x := false) (b := true) rfl rfl rfl rfl) (by kernel_rfl) rfl
              · exact ob_skip (want_is hE (g := 6) (x := false) (b := true) rfl rfl rfl rfl) (by kernel_rfl) rfl
              · exact ob_skip (want_is hE (g := 6) (x := false) (b := true) rfl rfl rfl rfl) (by kernel_rfl) rfl
              · exact ob_skip (want_is hE (g := 6) (x := false) (b := true) rfl rfl rfl rfl) (by kernel_rfl) rfl
              · exact ob_skip (want_is hE (g := 6) (x := false) (b := true) rfl rfl rfl rfl) (by kernel_rfl) rfl
              · exact ob_skip (want_is hE (g := 6) (x := false) (b := true) rfl rfl rfl rfl) (by kernel_rfl) rfl
              · exact ob_skip (want_is hE (g := 6) (x := false) (b := true) rfl rfl rfl rfl) (by kernel_rfl) rfl
              · exact ob_skip (want_is hE (g := 6) (x := false) (b := true) rfl rfl rfl rfl) (by kernel_rfl) rfl
              · exact ob_skip (want_is hE (g := 6) (x := false) (b := true) rfl rfl rfl rfl) (by kernel_rfl) rfl
              · exact ob_skip (want_is hE (g := 6) (x := false) (b := true) rfl rfl rfl rfl) (by kernel_rfl) rfl
              · exact ob_skip (want_is hE (g := 6) (x := false) (b := true) rfl rfl rfl rfl) (by kernel_rfl) rfl
              · refine ob_val (want_none rfl) (by kernel_rfl) (fun ph w' hp hm hw => ?_)
                have e35 : A.tmps[35]? = some (.bool false) := hE.dst 6 _ 35 rfl rfl; have e50 : A.tmps[50]? = some (undef) := hE.dst 21 _ 50 rfl rfl; simp [execOp, e35, e50, go_sem]
              · exact ob_move _ rfl (want_none rfl) (by kernel_rfl) (eval_dst hE (j := 22) rfl rfl)
              · exact ob_move _ rfl (want_is hE (g := 23) (x := false) (b := false) rfl rfl rfl rfl) (by kernel_rfl) (eval_out hE (d := 1) (by kernel_rfl))
              · exact ob_move _ rfl (want_is hE (g := 23) (x := false) (b := false) rfl rfl rfl rfl) (by kernel_rfl) (eval_out hE (d := 7) (by kernel_rfl))
              · refine ob_val (want_is hE (g := 23) (x := false) (b := false) rfl rfl rfl rfl) (by kernel_rfl) (fun ph w' hp hm hw => ?_)
                have e53 : A.tmps[53]? = some (.slice (some ⟨b, off, none⟩) len cap) := hE.dst 24 _ 53 rfl rfl; have e54 : A.tmps[54]? = some (.int .i64 (k : Int)) := hE.dst 25 _ 54 rfl rfl; simp [execOp, e53, e54, hi, hge, go_sem]
              · refine ob_val (want_is hE (g := 23) (x := false) (b := false) rfl rfl rfl rfl) (by kernel_rfl) (fun ph w' hp hm hw => ?_)
                have e55 : A.tmps[55]? = some (.pointer (some ⟨b, off + k * 2, none⟩)) := hE.dst 26 _ 55 rfl rfl; simp [execOp, e55, go_sem]
              · refine ob_val (want_is hE (g := 23) (x := false) (b := false) rfl rfl rfl rfl) (by kernel_rfl) (fun ph w' hp hm hw => ?_)
                have hc := (hw.1.cell (p := ⟨b, off + k * 2, none⟩) hbn).trans hc0; have e56 : A.tmps[56]? = some (.pointer (some ⟨b, off + k * 2, none⟩)) := hE.dst 27 _ 56 rfl rfl; simp [execOp, e56, hc, go_sem]
              · refine ob_val (want_is hE (g := 23) (x := false) (b := false) rfl rfl rfl rfl) (by kernel_rfl) (fun ph w' hp hm hw => ?_)
                have e57 : A.tmps[57]? = some (.int .i64 p) := hE.dst 28 _ 57 rfl rfl; simp [execOp, e57, hp1, go_sem]
              · exact ob_move _ rfl (want_is hE (g := 23) (x := false) (b := false) rfl rfl rfl rfl) (by kernel_rfl) (eval_dst hE (j := 29) rfl rfl)
              · exact ob_skip (want_is hE (g := 30) (x := false) (b := true) rfl rfl rfl rfl) (by kernel_rfl) rfl
              · exact ob_skip (want_is hE (g := 30) (x := false) (b := true) rfl rfl rfl rfl) (by kernel_rfl) rfl
              · exact ob_skip (want_is hE (g := 30) (x := false) (b := true) rfl rfl rfl rfl) (by kernel_rfl) rfl
              · exact ob_skip (want_is hE (g := 30) (x := false) (b := true) rfl rfl rfl rfl) (by kernel_rfl) rfl
              · exact ob_skip (want_is hE (g := 30) (x := false) (b := true) rfl rfl rfl rfl) (by kernel_rfl) rfl
              · exact ob_skip (want_is hE (g := 30) (x := false) (b := true) rfl rfl rfl rfl) (by kernel_rfl) rfl
              · exact ob_skip (want_is hE (g := 30) (x := false) (b := true) rfl rfl rfl rfl) (by kernel_rfl) rfl
              · exact ob_skip (want_is hE (g := 30) (x := false) (b := true) rfl rfl rfl rfl) (by kernel_rfl) rfl
              · exact ob_skip (want_is hE (g := 30) (x := false) (b := true) rfl rfl rfl rfl) (by kernel_rfl) rfl
              · exact ob_skip (want_is hE (g := 30) (x := false) (b := true) rfl rfl rfl rfl) (by kernel_rfl) rfl
              · exact ob_skip (want_is hE (g := 30) (x := false) (b := true) rfl rfl rfl rfl) (by kernel_rfl) rfl
              · exact ob_skip (want_is hE (g := 30) (x := false) (b := true) rfl rfl rfl rfl) (by kernel_rfl) rfl
              · exact ob_skip (want_is hE (g := 30) (x := false) (b := true) rfl rfl rfl rfl) (by kernel_rfl) rfl
              · exact ob_skip (want_is hE (g := 30) (x := false) (b := true) rfl rfl rfl rfl) (by kernel_rfl) rfl
              · exact ob_skip (want_is hE (g := 30) (x := false) (b := true) rfl rfl rfl rfl) (by kernel_rfl) rfl
              · refine ob_val (want_is hE (g := 23) (x := false) (b := false) rfl rfl rfl rfl) (by kernel_rfl) (fun ph w' hp hm hw => ?_)
                have e59 : A.tmps[59]? = some (.bool false) := hE.dst 30 _ 59 rfl rfl; have e74 : A.tmps[74]? = some (undef) := hE.dst 45 _ 74 rfl rfl; simp [execOp, e59, e74, go_sem]
              · refine ob_val (want_none rfl) (by kernel_rfl) (fun ph w' hp hm hw => ?_)
                have e52 : A.tmps[52]? = some (.bool false) := hE.dst 23 _ 52 rfl rfl; have e75 : A.tmps[75]? = some (.bool false) := hE.dst 46 _ 75 rfl rfl; simp [execOp, e52, e75, go_sem]
              · exact ob_move _ rfl (want_none rfl) (by kernel_rfl) (eval_dst hE (j := 47) rfl rfl)
              · exact ob_move _ rfl (want_is hE (g := 48) (x := false) (b := false) rfl rfl rfl rfl) (by kernel_rfl) (eval_out hE (d := 5) (by kernel_rfl))
              · refine ob_val (want_is hE (g := 48) (x := false) (b := false) rfl rfl rfl rfl) (by kernel_rfl) (fun ph w' hp hm hw => ?_)
                have e78 : A.tmps[78]? = some (.pointer (some ⟨w.heap.size, 0, none⟩)) := hE.dst 49 _ 78 rfl rfl; simp [execOp, e78, go_sem]
              · refine ob_val (want_is hE (g := 48) (x := false) (b := false) rfl rfl rfl rfl) (by kernel_rfl) (fun ph w' hp hm hw => ?_)
                have e79 : A.tmps[79]? = some (.pointer (some ⟨w.heap.size, 0, none⟩)) := hE.dst 50 _ 79 rfl rfl; simp [execOp, e79, go_sem]
              · refine ob_val (want_is hE (g := 48) (x := false) (b := false) rfl rfl rfl rfl) (by kernel_rfl) (fun ph w' hp hm hw => ?_)
                have hat : At w' w.heap.size 500 (some r) := by have h2 := hw.2.1; rwa [if_pos (show 0 ≤ ph from Nat.le_trans (by decide) hp)] at h2
                have hc := hat.1.g; have e80 : A.tmps[80]? = some (.pointer (some ⟨w.heap.size, 1, none⟩)) := hE.dst 51 _ 80 rfl rfl; simp [execOp, e80, hc, go_sem]
              · exact ob_move _ rfl (want_is hE (g := 48) (x := false) (b := false) rfl rfl rfl rfl) (by kernel_rfl) (eval_out hE (d := 6) (by kernel_rfl))
              · refine ob_val (want_is hE (g := 48) (x := false) (b := false) rfl rfl rfl rfl) (by kernel_rfl) (fun ph w' hp hm hw => ?_)
                have e82 : A.tmps[82]? = some (.pointer (some ⟨w.heap.size + 1, 0, none⟩)) := hE.dst 53 _ 82 rfl rfl; simp [execOp, e82, go_sem]
              · refine ob_val (want_is hE (g := 48) (x := false) (b := false) rfl rfl rfl rfl) (by kernel_rfl) (fun ph w' hp hm hw => ?_)
                have e83 : A.tmps[83]? = some (.pointer (some ⟨w.heap.size + 1, 0, none⟩)) := hE.dst 54 _ 83 rfl rfl; simp [execOp, e83, go_sem]
              · refine ob_val (want_is hE (g := 48) (x := false) (b := false) rfl rfl rfl rfl) (by kernel_rfl) (fun ph w' hp hm hw => ?_)
                have hat : At w' (w.heap.size + 1) 500 (some r) := by have h2 := hw.2.2; rwa [if_pos (show 0 ≤ ph from Nat.le_trans (by decide) hp)] at h2
                have hc := hat.1.g; have e84 : A.tmps[84]? = some (.pointer (some ⟨w.heap.size + 1, 1, none⟩)) := hE.dst 55 _ 84 rfl rfl; simp [execOp, e84, hc, go_sem]
              · refine ob_val (want_is hE (g := 48) (x := false) (b := false) rfl rfl rfl rfl) (by kernel_rfl) (fun ph w' hp hm hw => ?_)
                have e81 : A.tmps[81]? = some (.bool false) := hE.dst 52 _ 81 rfl rfl; have e85 : A.tmps[85]? = some (.bool false) := hE.dst 56 _ 85 rfl rfl; simp [execOp, e81, e85, go_sem]
              · refine ob_val (want_none rfl) (by kernel_rfl) (fun ph w' hp hm hw => ?_)
                have e77 : A.tmps[77]? = some (.bool false) := hE.dst 48 _ 77 rfl rfl; have e86 : A.tmps[86]? = some (.bool false) := hE.dst 57 _ 86 rfl rfl; simp [execOp, e77, e86, go_sem]
              · exact ob_move _ rfl (want_none rfl) (by kernel_rfl) (eval_dst hE (j := 58) rfl rfl)
              · exact ob_move _ rfl (want_is hE (g := 59) (x := false) (b := false) rfl rfl rfl rfl) (by kernel_rfl) (eval_out hE (d := 5) (by kernel_rfl))
              · refine ob_call (q := 0) (f := 16) (args := #[.pointer (some ⟨w.heap.size, 0, none⟩)]) (want_is hE (g := 59) (x := false) (b := false) rfl rfl rfl rfl) (by kernel_rfl) (fun w' => by have e89 : A.tmps[89]? = some (.pointer (some ⟨w.heap.size, 0, none⟩)) := hE.dst 60 _ 89 rfl rfl; simp [e89, go_sem]) ?_
                rintro w' ⟨hb', ha', hb2⟩
                refine (leftDone_st w.heap.size 500 (some r) w' ha').mono ?_
                rintro e w2 ⟨rfl, rfl⟩
                exact ⟨rfl, hb', ha', hb2⟩
              · exact ob_move _ rfl (want_is hE (g := 59) (x := false) (b := false) rfl rfl rfl rfl) (by kernel_rfl) (eval_out hE (d := 6) (by kernel_rfl))
              · refine ob_call (q := 1) (f := 17) (args := #[.pointer (some ⟨w.heap.size + 1, 0, none⟩)]) (want_is hE (g := 59) (x := false) (b := false) rfl rfl rfl rfl) (by kernel_rfl) (fun w' => by have e91 : A.tmps[91]? = some (.pointer (some ⟨w.heap.size + 1, 0, none⟩)) := hE.dst 62 _ 91 rfl rfl; simp [e91, go_sem]) ?_
                rintro w' ⟨hb', ha', hb2⟩
                refine (rleftDone_st (w.heap.size + 1) 500 (some r) w' hb2).mono ?_
                rintro e w2 ⟨rfl, rfl⟩
                exact ⟨rfl, hb', ha', hb2⟩
              · refine ob_val (want_is hE (g := 59) (x := false) (b := false) rfl rfl rfl rfl) (by kernel_rfl) (fun ph w' hp hm hw => ?_)
                have e90 : A.tmps[90]? = some (.bool (doneOf (some r))) := hE.dst 61 _ 90 rfl rfl; have e92 : A.tmps[92]? = some (.bool (doneOf (some r))) := hE.dst 63 _ 92 rfl rfl; simp [execOp, e90, e92, go_sem]
              · refine ob_val (want_none rfl) (by kernel_rfl) (fun ph w' hp hm hw => ?_)
                have e88 : A.tmps[88]? = some (.bool false) := hE.dst 59 _ 88 rfl rfl; have e93 : A.tmps[93]? = some (.bool false) := hE.dst 64 _ 93 rfl rfl; simp [execOp, e88, e93, go_sem]
              · exact ob_move _ rfl (want_none rfl) (by kernel_rfl) (eval_dst hE (j := 65) rfl rfl)
              · exact ob_move _ rfl (want_is hE (g := 66) (x := false) (b := false) rfl rfl rfl rfl) (by kernel_rfl) (eval_out hE (d := 5) (by kernel_rfl))
              · refine ob_val (want_is hE (g := 66) (x := false) (b := false) rfl rfl rfl rfl) (by kernel_rfl) (fun ph w' hp hm hw => ?_)
                have e96 : A.tmps[96]? = some (.pointer (some ⟨w.heap.size, 0, none⟩)) := hE.dst 67 _ 96 rfl rfl; simp [execOp, e96, go_sem]
              · refine ob_val (want_is hE (g := 66) (x := false) (b := false) rfl rfl rfl rfl) (by kernel_rfl) (fun ph w' hp hm hw => ?_)
                have e97 : A.tmps[97]? = some (.pointer (some ⟨w.heap.size, 0, none⟩)) := hE.dst 68 _ 97 rfl rfl; simp [execOp, e97, go_sem]
              · refine ob_val (want_is hE (g := 66) (x := false) (b := false) rfl rfl rfl rfl) (by kernel_rfl) (fun ph w' hp hm hw => ?_)
                have hat : At w' w.heap.size 500 (some r) := by have h2 := hw.2.1; rwa [if_pos (show 0 ≤ ph from Nat.le_trans (by decide) hp)] at h2
                have hc := hat.1.g; have e98 : A.tmps[98]? = some (.pointer (some ⟨w.heap.size, 1, none⟩)) := hE.dst 69 _ 98 rfl rfl; simp [execOp, e98, hc, go_sem]
              · refine ob_val (want_is hE (g := 66) (x := false) (b := false) rfl rfl rfl rfl) (by kernel_rfl) (fun ph w' hp hm hw => ?_)
                have e99 : A.tmps[99]? = some (.bool false) := hE.dst 70 _ 99 rfl rfl; simp [execOp, e99, go_sem]
              · exact ob_move _ rfl (want_is hE (g := 66) (x := false) (b := false) rfl rfl rfl rfl) (by kernel_rfl) (eval_dst hE (j := 71) rfl rfl)
              · exact ob_move _ rfl (want_is hE (g := 72) (x := true) (b := true) rfl rfl rfl rfl) (by kernel_rfl) (eval_out hE (d := 5) (by kernel_rfl))
              · refine ob_val (want_is hE (g := 72) (x := true) (b := true) rfl rfl rfl rfl) (by kernel_rfl) (fun ph w' hp hm hw => ?_)
                have e102 : A.tmps[102]? = some (.pointer (some ⟨w.heap.size, 0, none⟩)) := hE.dst 73 _ 102 rfl rfl; simp [execOp, e102, go_sem]
              · refine ob_val (want_is hE (g := 72) (x := true) (b := true) rfl rfl rfl rfl) (by kernel_rfl) (fun ph w' hp hm hw => ?_)
                have e103 : A.tmps[103]? = some (.pointer (some ⟨w.heap.size, 0, none⟩)) := hE.dst 74 _ 103 rfl rfl; simp [execOp, e103, go_sem]
              · refine ob_val (want_is hE (g := 72) (x := true) (b := true) rfl rfl rfl rfl) (by kernel_rfl) (fun ph w' hp hm hw => ?_)
                have hat : At w' w.heap.size 500 (some r) := by have h2 := hw.2.1; rwa [if_pos (show 0 ≤ ph from Nat.le_trans (by decide) hp)] at h2
                have hc := hat.1.s; have e104 : A.tmps[104]? = some (.pointer (some ⟨w.heap.size, 0, none⟩)) := hE.dst 75 _ 104 rfl rfl; simp [execOp, e104, hc, go_sem]
              · exact ob_move _ rfl (want_is hE (g := 72) (x := true) (b := true) rfl rfl rfl rfl) (by kernel_rfl) (eval_out hE (d := 6) (by kernel_rfl))
              · refine ob_val (want_is hE (g := 72) (x := true) (b := true) rfl rfl rfl rfl) (by kernel_rfl) (fun ph w' hp hm hw => ?_)
                have e106 : A.tmps[106]? = some (.pointer (some ⟨w.heap.size + 1, 0, none⟩)) := hE.dst 77 _ 106 rfl rfl; simp [execOp, e106, go_sem]
              · refine ob_val (want_is hE (g := 72) (x := true) (b := true) rfl rfl rfl rfl) (by kernel_rfl) (fun ph w' hp hm hw => ?_)
                have e107 : A.tmps[107]? = some (.pointer (some ⟨w.heap.size + 1, 0, none⟩)) := hE.dst 78 _ 107 rfl rfl; simp [execOp, e107, go_sem]
              · refine ob_val (want_is hE (g := 72) (x := true) (b := true) rfl rfl rfl rfl) (by kernel_rfl) (fun ph w' hp hm hw => ?_)
                have hat : At w' (w.heap.size + 1) 500 (some r) := by have h2 := hw.2.2; rwa [if_pos (show 0 ≤ ph from Nat.le_trans (by decide) hp)] at h2
                have hc := hat.1.s; have e108 : A.tmps[108]? = some (.pointer (some ⟨w.heap.size + 1, 0, none⟩)) := hE.dst 79 _ 108 rfl rfl; simp [execOp, e108, hc, go_sem]
              · refine ob_val (want_is hE (g := 72) (x := true) (b := true) rfl rfl rfl rfl) (by kernel_rfl) (fun ph w' hp hm hw => ?_)
                have e105 : A.tmps[105]? = some (.string (tx r)) := hE.dst 76 _ 105 rfl rfl; have e109 : A.tmps[109]? = some (.string (tx r)) := hE.dst 80 _ 109 rfl rfl; simp [execOp, e105, e109, go_sem]
              · refine ob_val (want_is hE (g := 66) (x := false) (b := false) rfl rfl rfl rfl) (by kernel_rfl) (fun ph w' hp hm hw => ?_)
                have e101 : A.tmps[101]? = some (.bool true) := hE.dst 72 _ 101 rfl rfl; have e110 : A.tmps[110]? = some (.bool false) := hE.dst 81 _ 110 rfl rfl; simp [execOp, e101, e110, go_sem]
              · refine ob_val (want_none rfl) (by kernel_rfl) (fun ph w' hp hm hw => ?_)
                have e95 : A.tmps[95]? = some (.bool false) := hE.dst 66 _ 95 rfl rfl; have e111 : A.tmps[111]? = some (.bool false) := hE.dst 82 _ 111 rfl rfl; simp [execOp, e95, e111, go_sem]
            · intro w' ⟨hb', ha', hb2⟩
              simp only [laid, Act.put, List.setIfInBounds_toArray, List.set_cons_succ, List.set_cons_zero, List.getD_cons_succ, List.getD_cons_zero, Nat.zero_add, Nat.reduceAdd]
              go_wp2_with fail
              exact ⟨⟨k + 1, (some r), by omega, by go_num, ha', hb2, hb'⟩, by simp [intOf]; omega⟩
    · have hd : decide (k < len) = false := by simpa using hlt
      go_wp2_with fail
      refine (awake7_any _).mono ?_
      rintro e W1 ⟨rfl, hb⟩
      go_wp2
      go_ret
      exact ⟨rfl, B.trans (hb.mono B.size)⟩

theorem layReads_walk (s : ByteArray) (A : Option Addr) (len cap : Nat) (w : World) (w0 : s.size ≤ maxLen) (w1 : ∃ xs, Pairs w.heap.size w xs [.slice A len cap]) :
    Calls Try.prog 4 #[.string s, .slice A len cap] w fun e w' => e = .returned (.bool true) ∧ Below w.heap.size w w' := by
  rw [tx_of s]
  obtain ⟨xs, hx⟩ := w1
  by_cases h : s.data.toList.length ≤ 500 ∧ len ≤ 50
  · exact layReads_in _ A len cap xs w hx h.1 h.2
  · exact layReads_out _ A len cap w h

end Go.Proofs.Ytghdejepdckahaa
