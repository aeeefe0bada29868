/- octet.To answers the bytes of a number. Conditions: the slice reads as limbs; at most 2^40 of them. -/
import Derived.Test.YtmbdidompjgaaaaOctA
import Derived.Laws.IdiomStrings
namespace Go.Proofs.Ytmbdidompjgaaaa
open Go.RowKit Go.Shelf Num
set_option linter.unusedVariables false

/-- Block g is a row of n bytes, the j-th being f j. -/
def RowB (w : World) (g n : Nat) (f : Nat → UInt8) : Prop := w.rowIs g 5 n (fun j => .int .u8 (((f j).toNat : Nat) : Int))
theorem infoB : (Try.prog.info? 5).map (fun i => (i.zero, i.size, i.bytes)) = some (some (.int .u8 0), 1, 1) := by kernel_rfl
theorem rowB_made (w : World) (n : Nat) : RowB (w.alloc (.cells (madeCells #[.int .u8 0] n) 5)) w.heap.size n (fun _ => 0) := World.rowIs_made w _ n _
/-- The byte at i of a number. -/
def byt (n i : Nat) : UInt8 := UInt8.ofNat (n / 256 ^ (nbyt n - 1 - i))
theorem RowB.lay {w : World} {g m n k : Nat} (h : RowB w g m (fun j => if j < k then byt n j else 0)) {c : Nat} (hc : c = (byt n k).toNat) :
    RowB (w.setCell ⟨g, k, none⟩ (.int .u8 (c : Int))) g m (fun j => if j < k + 1 then byt n j else 0) := by
  refine (World.rowIs.set h k _).congr fun j _ => ?_
  by_cases hj : j = k
  · subst hj
    simp [hc]
  · have e : (j < k + 1) = (j < k) := propext ⟨fun _ => by omega, fun _ => by omega⟩
    simp only [hj, e, if_false]
/-- What is shifted down and cut is the byte. -/
theorem cut_byte {xs : List Nat} (h : Ok xs) {i q t : Nat} (hq : q = (nbyt (val xs) - 1 - i) / 8) (ht : t = 8 * ((nbyt (val xs) - 1 - i) % 8)) :
    ((lat xs q : Nat) : Int) / 2 ^ t % 256 = (((byt (val xs) i).toNat : Nat) : Int) := by
  have e : ((lat xs q : Nat) : Int) / 2 ^ t = ((lat xs q / 2 ^ t : Nat) : Int) := by rw [Int.natCast_ediv, Int.natCast_pow]; rfl
  have e2 := lim_byte (val xs) (nbyt (val xs) - 1 - i)
  rw [← lat_val xs h, ← hq, pow_256 (_ % 8), ← ht] at e2
  unfold byt
  rw [e, ofNat_mod, ← e2]
  rfl

theorem row_text {w : World} {g m n : Nat} (h : RowB w g m (fun j => if j < m then byt n j else 0)) (hm : m = nbyt n) :
    (convert 46 9 (.slice (some ⟨g, 0, none⟩) m m)).run Try.prog w = .ok (.string ⟨(byts n).toArray⟩) w := by
  have hl : (byts n).length = m := by rw [byts_length, hm]
  have e := run_convert_bytes_back (P := Try.prog) w 46 9 5 ⟨g, 0, none⟩ m (byts n) Try.underlying46 Try.underlying5 Try.underlying9 (fun j hj => by
    rw [hl] at hj
    have h1 := World.rowIs.cell h (i := j) hj
    have h2 : (byts n)[j]? = some (byt n j) := digs_get _ _ _ (by omega)
    have h3 : (byts n)[j]'(by rw [hl]; exact hj) = byt n j := by
      rw [List.getElem?_eq_getElem (by rw [hl]; exact hj)] at h2
      injection h2
    rw [h3]
    simp only [hj, if_true] at h1
    rcases Nat.eq_zero_or_pos j with rfl | h0
    · simpa [Addr.add] using h1
    · simpa [Addr.add, show j ≠ 0 from by omega] using h1)
  rw [hl] at e
  exact e


end Go.Proofs.Ytmbdidompjgaaaa
