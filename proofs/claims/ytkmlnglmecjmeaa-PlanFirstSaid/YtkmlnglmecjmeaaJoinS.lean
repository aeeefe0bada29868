import Derived.Test.YtkmlnglmecjmeaaRefJ
import Derived.Test.YtkmlnglmecjmeaaPruN
/- The document's Join of any two lists of spots; leaf and small of this layer's law. Condition: the slices read as spots, of at most 900,000 together. -/
namespace Go.Proofs.Ytkmlnglmecjmeaa
open Go Go.RowKit
set_option linter.unusedVariables false

/-- Two lists as halves of one; where one is nothing, the other one. -/
def joinS (a b : List Sp) : List Sp := if a = [] then b else if b = [] then a else (false, 0, 0) :: (a ++ b)
theorem joinS_spo (x y : Option Tr) : joinS (spo x) (spo y) = spo (joinO x y) := (spo_join x y).symm
theorem joinS_len (a b : List Sp) : (joinS a b).length ≤ 1 + a.length + b.length := by
  unfold joinS
  split
  · omega
  · split
    · omega
    · simp only [List.length_cons, List.length_append]; omega

set_option maxRecDepth 100000 in
set_option maxHeartbeats 4000000 in
theorem refJoinS_any (u v : Value) (a b : List Sp) (w : World) (ha : Spots w.heap.size w a [u]) (hb : Spots w.heap.size w b [v]) (hl : a.length + b.length ≤ 1100000) :
    Calls Try.prog 15 #[u, v] w fun e W' => ∃ v', e = .returned v' ∧ Spots W'.heap.size W' (joinS a b) [v'] ∧ Below w.heap.size w W' := by
  by_cases h0 : a = []
  · subst h0
    have HB := Lib.hid hb
    obtain ⟨A, cap, rfl, hlc, hcm, -⟩ := spots_at ha
    obtain ⟨A', cap', rfl, hlc', hcm', -⟩ := spots_at hb
    have HJ : Hid (joinS [] b = b) := Lib.hid rfl
    have B0 := below_new w (.cells #[] 56)
    have HB1 := Lib.hid (keeps_spots _ _ _ _ _ _ HB.out B0 (Nat.le_refl _))
    clear ha hb hcm hcm'
    go_enter Try.func15, Try.ntmps15
    go_wp2_with (at_builtin; refine append_spots _ rfl _ _ rfl w.heap.size _ _ _ rfl (owns_empty w 56 3 (Nat.le_refl _)) w.heap.size _ b rfl HB1.out ?c1 ?c2 ?_)
    case c1 => omega
    case c2 => simp
    intro v' w' hown' hgr
    have B2 := ((Below.refl w.heap.size w).alloc (Nat.le_refl _) (.cells #[] 56)).grown hgr (by simp) (by intro k hk; simp [Value.ownBlock] at hk; omega)
    go_wp2
    go_ret
    rw [HJ.out]
    exact ⟨_, rfl, own_spots (by simpa using hown'), B2⟩
  · by_cases h1 : b = []
    · subst h1
      have HA := Lib.hid ha
      have hne : a.length ≠ 0 := fun h => h0 (List.eq_nil_of_length_eq_zero h)
      obtain ⟨A, cap, rfl, hlc, hcm, -⟩ := spots_at ha
      obtain ⟨A', cap', rfl, hlc', hcm', -⟩ := spots_at hb
      have HJ : Hid (joinS a [] = a) := Lib.hid (by unfold joinS; rw [if_neg h0, if_pos rfl])
      have h2 : ((a.length : Int) == 0) = false := beq_eq_false_iff_ne.2 (by omega)
      have B0 := below_new w (.cells #[] 56)
      have HA1 := Lib.hid (keeps_spots _ _ _ _ _ _ HA.out B0 (Nat.le_refl _))
      clear ha hb hcm hcm' h0 hne
      go_enter Try.func15, Try.ntmps15
      go_wp2_with (at_builtin; refine append_spots _ rfl _ _ rfl w.heap.size _ _ _ rfl (owns_empty w 56 3 (Nat.le_refl _)) w.heap.size _ a rfl HA1.out ?c1 ?c2 ?_)
      case c1 => simp at hl; omega
      case c2 => simp
      intro v' w' hown' hgr
      have B2 := ((Below.refl w.heap.size w).alloc (Nat.le_refl _) (.cells #[] 56)).grown hgr (by simp) (by intro k hk; simp [Value.ownBlock] at hk; omega)
      go_wp2
      go_ret
      rw [HJ.out]
      exact ⟨_, rfl, own_spots (by simpa using hown'), B2⟩
    · have e : joinS a b = (false, 0, 0) :: (a ++ b) := by unfold joinS; rw [if_neg h0, if_neg h1]
      rw [e]
      exact refJoin_both u v a b w ha hb (fun h => h0 (List.eq_nil_of_length_eq_zero h)) (fun h => h1 (List.eq_nil_of_length_eq_zero h)) hl
theorem refJoinO_any (u v : Value) (x y : Option Tr) (w : World) (ha : Spots w.heap.size w (spo x) [u]) (hb : Spots w.heap.size w (spo y) [v]) (hl : (spo x).length + (spo y).length ≤ 1100000) :
    Calls Try.prog 15 #[u, v] w fun e W' => ∃ v', e = .returned v' ∧ Spots W'.heap.size W' (spo (joinO x y)) [v'] ∧ Below w.heap.size w W' := by
  rw [← joinS_spo]
  exact refJoinS_any u v _ _ w ha hb hl

end Go.Proofs.Ytkmlnglmecjmeaa
