import Derived.Test.YtkmlnglmecjmeaaPlaN
import Derived.Test.YtkmlnglmecjmeaaFluH
/- What members tell, as it lies in memory, read as layer 15 looks at it. No condition. -/
namespace Go.Proofs.Ytkmlnglmecjmeaa
open Go Go.RowKit
set_option linter.unusedVariables false

/-- What it tells. -/
def TellsF (n : Nat) (w : World) (h : FH) (f : Fl) : Prop := h.who = f.who ∧ h.id = f.id ∧ h.want = f.want ∧ Spots n w (spo f.tree) [.slice h.tree.1 h.tree.2.1 h.tree.2.2]
abbrev EachF := Pairs TellsF
theorem EachF.keep {n m : Nat} {w w' : World} {hs : List FH} {xs : List Fl} (h : EachF n w hs xs) (hb : Below n w w') (hm : n ≤ m) : EachF m w' hs xs :=
  ⟨h.1, fun i a x h1 h2 => by
    obtain ⟨e1, e2, e3, e4⟩ := h.2 i a x h1 h2
    exact ⟨e1, e2, e3, keeps_spots _ _ _ _ _ _ e4 hb hm⟩⟩

end Go.Proofs.Ytkmlnglmecjmeaa
