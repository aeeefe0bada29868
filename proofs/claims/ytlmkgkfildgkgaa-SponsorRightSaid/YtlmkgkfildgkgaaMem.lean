import Derived.Test.YtlmkgkfildgkgaaLay
import Derived.Test.YtlmkgkfildgkgaaLaySt
import Derived.Test.YtlmkgkfildgkgaaAwake7
/- Members and views' ids: whether they may be, which is ahead, their bytes; lodge/member's and the document's. No condition. -/
namespace Go.Proofs.Ytlmkgkfildgkgaa
open Go.RowKit
set_option linter.unusedVariables false

/-- A life's number, or a counter, may be. -/
def okC (n : Int) : Bool := decide (1 ≤ n) && decide (n ≤ 2147483647)
/-- A member may be. -/
def okM (a b : Int) : Bool := decide (0 ≤ a) && decide (a ≤ 7) && okC b
/-- A member is ahead of another one. -/
def lessM (a b c d : Int) : Bool := decide (a < c) || (a == c && decide (b < d))
/-- A view's id is none. -/
def noneV (a b c : Int) : Bool := a == 0 && b == 0 && c == 0
/-- A view's id may be. -/
def okV (a b c : Int) : Bool := noneV a b c || (okC a && okM b c)
abbrev vM (a b : Int) : Value := .agg #[.int .i64 a, .int .i64 b]
abbrev vV (a b c : Int) : Value := .agg #[.int .i64 a, .int .i64 b, .int .i64 c]
/-- A member's bytes. -/
def layM (a b : Int) : List UInt8 := layN a ++ layN b
/-- A view's id's. -/
def layV (a b c : Int) : List UInt8 := layN a ++ layN b ++ layN c
theorem layM_length (a b : Int) : (layM a b).length = 8 := rfl
theorem layV_length (a b c : Int) : (layV a b c).length = 12 := rfl

/-- What a box holds still, when nothing below has turned. -/
theorem box_cell {w W1 : World} {cs : Array Value} {t : TypeId} (hb : Below (w.alloc (.cells cs t)).heap.size (w.alloc (.cells cs t)) W1) {n : Nat} {v : Value} (h : cs[n]? = some v) : W1.cell? ⟨w.heap.size, n, none⟩ = some v := by
  have h1 : (w.alloc (.cells cs t)).cell? ⟨w.heap.size, n, none⟩ = some v := by simp [h]
  exact (hb.cell (p := ⟨w.heap.size, n, none⟩) (by simp)).trans h1
theorem below_new2 (w : World) (o p : Obj) : Below w.heap.size w ((w.alloc o).alloc p) := (below_new w o).trans ((below_new _ p).mono (by simp))




set_option maxRecDepth 100000 in
theorem refMright_any (a b : Int) (w : World) : Calls Try.prog 27 #[vM a b] w fun e W' => e = .returned (.bool (okM a b)) ∧ Below w.heap.size w W' := by
  go_enter Try.func27, Try.ntmps27
  go_wp2
  all_goals go_ret
  all_goals exact ⟨rbool (by rw [Bool.eq_iff_iff]; simp [okM, okC]; try omega), below_new _ _⟩

end Go.Proofs.Ytlmkgkfildgkgaa
