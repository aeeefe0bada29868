/- Members and views' ids: whether they may be, which is ahead, their bytes; lodge/member's and the document's. No condition. -/
import Derived.Test.YtbjefnboppfnaaaLay
import Derived.Test.YtbjefnboppfnaaaLaySt
import Derived.Test.YtbjefnboppfnaaaAwake7
namespace Go.Proofs.Ytbjefnboppfnaaa
open Go.RowKit
set_option linter.unusedVariables false

/-- A life's number, or a counter, may be. -/
def okC (n : Int) : Bool := decide (1 ≤ n) && decide (n ≤ 2147483647)
/-- A member may be. -/
def okM (a b : Int) : Bool := decide (0 ≤ a) && decide (a ≤ 7) && okC b
/-- A member is ahead of another one. -/
def lessM (a b c d : Int) : Bool := decide (a < c) || (a == c && decide (b < d))
/-- A view's id is none. -/
def noneV (a b c : Int) : Bool := a == 0 && b == 0 && c == 0
/-- A view's id may be. -/
def okV (a b c : Int) : Bool := noneV a b c || (okC a && okM b c)
abbrev vM (a b : Int) : Value := .agg #[.int .i64 a, .int .i64 b]
abbrev vV (a b c : Int) : Value := .agg #[.int .i64 a, .int .i64 b, .int .i64 c]
/-- A member's bytes. -/
def layM (a b : Int) : List UInt8 := layN a ++ layN b
/-- A view's id's. -/
def layV (a b c : Int) : List UInt8 := layN a ++ layN b ++ layN c
theorem layM_length (a b : Int) : (layM a b).length = 8 := rfl
theorem layV_length (a b c : Int) : (layV a b c).length = 12 := rfl

/-- What a box holds still, when nothing below has turned. -/
theorem box_cell {w W1 : World} {cs : Array Value} {t : TypeId} (hb : Below (w.alloc (.cells cs t)).heap.size (w.alloc (.cells cs t)) W1) {n : Nat} {v : Value} (h : cs[n]? = some v) : W1.cell? ⟨w.heap.size, n, none⟩ = some v := by
  have h1 : (w.alloc (.cells cs t)).cell? ⟨w.heap.size, n, none⟩ = some v := by simp [h]
  exact (hb.cell (p := ⟨w.heap.size, n, none⟩) (by simp)).trans h1
theorem below_new2 (w : World) (o p : Obj) : Below w.heap.size w ((w.alloc o).alloc p) := (below_new w o).trans ((below_new _ p).mono (by simp))

set_option maxRecDepth 100000 in
theorem counts_any (n : Int) (w : World) : Calls Try.prog 28 #[.int .i64 n] w fun e W' => e = .returned (.bool (okC n)) ∧ w = W' := by
  go_enter Try.func28, Try.ntmps28
  go_wp2
  all_goals go_ret
  all_goals exact ⟨rbool (by simp [okC]; try omega), rfl⟩

set_option maxRecDepth 100000 in
theorem less_any (a b c d : Int) (w : World) : Calls Try.prog 9 #[vM a b, vM c d] w fun e W' => e = .returned (.bool (lessM a b c d)) ∧ Below w.heap.size w W' := by
  go_enter Try.func9, Try.ntmps9
  go_wp2
  all_goals go_ret
  all_goals exact ⟨rbool (by simp_all [lessM]), below_new2 _ _ _⟩
set_option maxRecDepth 100000 in
theorem refLess_any (a b c d : Int) (w : World) : Calls Try.prog 10 #[vM a b, vM c d] w fun e W' => e = .returned (.bool (lessM a b c d)) ∧ Below w.heap.size w W' := by
  go_enter Try.func10, Try.ntmps10
  go_wp2
  all_goals go_ret
  all_goals exact ⟨rbool (by simp_all [lessM]; try omega), below_new2 _ _ _⟩

set_option maxRecDepth 100000 in
theorem none_any (a b c : Int) (w : World) : Calls Try.prog 17 #[vV a b c] w fun e W' => e = .returned (.bool (noneV a b c)) ∧ Below w.heap.size w W' := by
  go_enter Try.func17, Try.ntmps17
  go_wp2
  all_goals go_ret
  all_goals exact ⟨rbool (by simp_all [noneV]), below_new _ _⟩
set_option maxRecDepth 100000 in
theorem refNone_any (a b c : Int) (w : World) : Calls Try.prog 18 #[vV a b c] w fun e W' => e = .returned (.bool (noneV a b c)) ∧ Below w.heap.size w W' := by
  go_enter Try.func18, Try.ntmps18
  go_wp2
  all_goals go_ret
  all_goals exact ⟨rbool (by simp_all [noneV]), below_new _ _⟩

set_option maxRecDepth 100000 in
theorem mright_any (a b : Int) (w : World) : Calls Try.prog 11 #[vM a b] w fun e W' => e = .returned (.bool (okM a b)) ∧ Below w.heap.size w W' := by
  go_enter Try.func11, Try.ntmps11
  go_wp2_with (refine (counts_any _ _).mono ?_; rintro e W1 ⟨rfl, rfl⟩)
  all_goals go_ret
  all_goals exact ⟨rbool (by simp_all [okM]; try omega), below_new _ _⟩
set_option maxRecDepth 100000 in
theorem refMright_any (a b : Int) (w : World) : Calls Try.prog 12 #[vM a b] w fun e W' => e = .returned (.bool (okM a b)) ∧ Below w.heap.size w W' := by
  go_enter Try.func12, Try.ntmps12
  go_wp2
  all_goals go_ret
  all_goals exact ⟨rbool (by rw [Bool.eq_iff_iff]; simp [okM, okC]; try omega), below_new _ _⟩

set_option maxRecDepth 100000 in
theorem id_any (a b c : Int) (w : World) : Calls Try.prog 15 #[vV a b c] w fun e W' => e = .returned (.bool (okV a b c)) ∧ Below w.heap.size w W' := by
  go_enter Try.func15, Try.ntmps15
  go_wp2_with fail
  refine (none_any _ _ _ _).mono ?_
  rintro e W1 ⟨rfl, hb⟩
  have h0 : W1.cell? ⟨w.heap.size, 0, none⟩ = some (.int .i64 a) := box_cell hb rfl
  have h1 : W1.cell? ⟨w.heap.size, 1, none⟩ = some (.int .i64 b) := box_cell hb rfl
  have h2 : W1.cell? ⟨w.heap.size, 2, none⟩ = some (.int .i64 c) := box_cell hb rfl
  have B := (below_new w (.cells #[.int .i64 a, .int .i64 b, .int .i64 c] 26)).trans (hb.mono (by simp))
  clear hb
  cases hn : noneV a b c
  · go_wp2_with fail
    refine (counts_any _ _).mono ?_
    rintro e W2 ⟨rfl, rfl⟩
    cases hk : okC a
    · go_wp2
      go_ret
      exact ⟨rbool (by simp [okV, hn, hk]), B⟩
    · go_wp2_with fail
      refine (mright_any _ _ _).mono ?_
      rintro e W2 ⟨rfl, hb⟩
      go_wp2
      go_ret
      exact ⟨rbool (by simp [okV, hn, hk]), B.trans (hb.mono B.size)⟩
  · go_wp2
    go_ret
    exact ⟨rbool (by simp [okV, hn]), B⟩
set_option maxRecDepth 100000 in
theorem refId_any (a b c : Int) (w : World) : Calls Try.prog 16 #[vV a b c] w fun e W' => e = .returned (.bool (okV a b c)) ∧ Below w.heap.size w W' := by
  go_enter Try.func16, Try.ntmps16
  go_wp2_with fail
  refine (refNone_any _ _ _ _).mono ?_
  rintro e W1 ⟨rfl, hb⟩
  have h0 : W1.cell? ⟨w.heap.size, 0, none⟩ = some (.int .i64 a) := box_cell hb rfl
  have h1 : W1.cell? ⟨w.heap.size, 1, none⟩ = some (.int .i64 b) := box_cell hb rfl
  have h2 : W1.cell? ⟨w.heap.size, 2, none⟩ = some (.int .i64 c) := box_cell hb rfl
  have B := (below_new w (.cells #[.int .i64 a, .int .i64 b, .int .i64 c] 26)).trans (hb.mono (by simp))
  clear hb
  cases hn : noneV a b c
  · by_cases k0 : 1 ≤ a
    · by_cases k1 : a < 2147483648
      · have hk : okC a = true := by simp [okC]; omega
        go_wp2_with fail
        refine (refMright_any _ _ _).mono ?_
        rintro e W2 ⟨rfl, hb⟩
        go_wp2
        go_ret
        exact ⟨rbool (by simp [okV, hn, hk]), B.trans (hb.mono B.size)⟩
      · have hk : okC a = false := by simp [okC]; omega
        go_wp2
        go_ret
        exact ⟨rbool (by simp [okV, hn, hk]), B⟩
    · have hk : okC a = false := by simp [okC]; omega
      go_wp2
      go_ret
      exact ⟨rbool (by simp [okV, hn, hk]), B⟩
  · go_wp2
    go_ret
    exact ⟨rbool (by simp [okV, hn]), B⟩
end Go.Proofs.Ytbjefnboppfnaaa
