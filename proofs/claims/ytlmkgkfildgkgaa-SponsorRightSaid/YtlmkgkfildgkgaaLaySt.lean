import Derived.Test.YtlmkgkfildgkgaaLayM
import Derived.Test.YtlmkgkfildgkgaaLayR
/- What is left to be read, as one state: these bytes, or Bad. lay.Left's and the document's calls, each as one contract. Condition: the pointer points to a Left in that state, of at most n bytes, fewer than 2^63. -/
namespace Go.Proofs.Ytlmkgkfildgkgaa
open Go.RowKit
set_option linter.unusedVariables false

/-- Block b is a Left in this state: some l: l is left, and all went well; none: it is Bad. -/
def At (w : World) (b n : Nat) : Option (List UInt8) → Prop
  | some l => LeftAt w b l false ∧ l.length ≤ n
  | none => BadAt w b n
def numOf : Option (List UInt8) → Int → Int
  | some l, m => if hasN l false m then (nb4 l : Int) else 0
  | none, _ => 0
def numSt : Option (List UInt8) → Int → Option (List UInt8)
  | some l, m => if hasN l false m then some (l.drop 4) else none
  | none, _ => none
def textOf : Option (List UInt8) → Int → List UInt8
  | some l, m => if hasT l false m then (l.drop 4).take (nb4 l) else []
  | none, _ => []
def textSt : Option (List UInt8) → Int → Option (List UInt8)
  | some l, m => if hasT l false m then some ((l.drop 4).drop (nb4 l)) else none
  | none, _ => none
def doneOf : Option (List UInt8) → Bool
  | some l => l.isEmpty
  | none => false
theorem BadAt.mono {w : World} {b n m : Nat} (h : BadAt w b n) (hm : n ≤ m) : BadAt w b m := by
  obtain ⟨r, hr, h⟩ := h
  exact ⟨r, by omega, h⟩
theorem At.keep {w w' : World} {b n : Nat} {st : Option (List UInt8)} (h : At w b n st) (e : w'.heap[b]? = w.heap[b]?) : At w' b n st := by
  cases st with
  | some l => exact ⟨h.1.keep e, h.2⟩
  | none =>
    obtain ⟨r, hr, h⟩ := h
    exact ⟨r, hr, h.keep e⟩
theorem At.only {w w' : World} {b n g : Nat} {st : Option (List UInt8)} (h : At w b n st) (hg : Only g w w') (hb : b ≠ g) : At w' b n st := h.keep (hg.block b hb)
theorem At.below {w w' : World} {b n B : Nat} {st : Option (List UInt8)} (h : At w b n st) (hg : Below B w w') (hb : b < B) : At w' b n st := h.keep (hg.block b hb)
theorem At.lt {w : World} {b n : Nat} {st : Option (List UInt8)} (h : At w b n st) : b < w.heap.size := by
  cases st with
  | some l => exact World.block_lt_of_cell? w ⟨b, 0, none⟩ h.1.s
  | none =>
    obtain ⟨r, hr, h⟩ := h
    exact World.block_lt_of_cell? w ⟨b, 0, none⟩ h.s
theorem At.next {w w' : World} {b n : Nat} {st : Option (List UInt8)} (h : At w b n st) (hg : Below w.heap.size w w') : At w' b n st := h.below hg h.lt
/-- Whether it is Bad. -/
def badOf (st : Option (List UInt8)) : Bool := st.isNone
theorem At.bad {w : World} {b n : Nat} {st : Option (List UInt8)} (h : At w b n st) : w.cell? ⟨b, 1, none⟩ = some (.bool (badOf st)) := by
  cases st with
  | some l => exact h.1.g
  | none =>
    obtain ⟨r, hr, h⟩ := h
    exact h.g



end Go.Proofs.Ytlmkgkfildgkgaa
