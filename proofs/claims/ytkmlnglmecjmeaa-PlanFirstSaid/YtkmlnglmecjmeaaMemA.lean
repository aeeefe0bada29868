/- Several texts in one: each part says what it proves, and under which conditions. -/
import Derived.Test.YtkmlnglmecjmeaaLayA
import Derived.Laws.Strings
import Derived.ChangeArms
import Derived.DataReads
import Derived.Below
import Derived.WideShapes

/- The document's examples of layer 7 hold (lodgelaw07.awake answers true), and memory below is left as it was. No condition. -/
namespace Go.Proofs.Ytkmlnglmecjmeaa
open Go.RowKit
set_option linter.unusedVariables false

theorem leftAt_new (w : World) (s : ByteArray) (l : List UInt8) (t : TypeId) (h : s = tx l) : LeftAt (w.alloc (.cells #[.string s, .bool false] t)) w.heap.size l false := by
  subst h
  exact ⟨by simp, by simp, by simp, by simp⟩
/-- A new Left, and nothing else. -/
theorem below_new (w : World) (o : Obj) : Below w.heap.size w (w.alloc o) := (Below.refl _ w).alloc (Nat.le_refl _) _
theorem only_below {g : Nat} {w a b : World} (h : Below w.heap.size w a) (hg : w.heap.size ≤ g) (o : Only g a b) : Below w.heap.size w b := h.trans (o.below hg)

theorem LeftAt.lt {w : World} {b : Nat} {l : List UInt8} {x : Bool} (h : LeftAt w b l x) : b < w.heap.size := World.block_lt_of_cell? w ⟨b, 0, none⟩ h.s
theorem LeftAt.next {w w' : World} {b : Nat} {l : List UInt8} {x : Bool} (h : LeftAt w b l x) (hb : Below w.heap.size w w') : LeftAt w' b l x := h.below hb h.lt
theorem BadAt.next {w w' : World} {b n : Nat} (h : BadAt w b n) (hb : Below w.heap.size w w') : BadAt w' b n := by
  obtain ⟨r, hr, h⟩ := h
  exact ⟨r, hr, h.next hb⟩
theorem BadAt.only {w w' : World} {b n g : Nat} (h : BadAt w b n) (hb : Only g w w') (hg : b ≠ g) : BadAt w' b n := by
  obtain ⟨r, hr, h⟩ := h
  exact ⟨r, hr, h.only hb hg⟩
theorem BadAt.cell {w : World} {b n : Nat} (h : BadAt w b n) : w.cell? ⟨b, 1, none⟩ = some (.bool true) := by
  obtain ⟨r, _, h⟩ := h
  exact h.g
theorem BadAt.lt {w : World} {b n : Nat} (h : BadAt w b n) : b < w.heap.size := by
  obtain ⟨r, _, h⟩ := h
  exact h.lt


end Go.Proofs.Ytkmlnglmecjmeaa


/- Members and views' ids: whether they may be, which is ahead, their bytes; lodge/member's and the document's. No condition. -/
namespace Go.Proofs.Ytkmlnglmecjmeaa
open Go.RowKit
set_option linter.unusedVariables false

/-- A life's number, or a counter, may be. -/
def okC (n : Int) : Bool := decide (1 ≤ n) && decide (n ≤ 2147483647)
/-- A member may be. -/
def okM (a b : Int) : Bool := decide (0 ≤ a) && decide (a ≤ 7) && okC b
/-- A member is ahead of another one. -/
def lessM (a b c d : Int) : Bool := decide (a < c) || (a == c && decide (b < d))
/-- A view's id is none. -/
def noneV (a b c : Int) : Bool := a == 0 && b == 0 && c == 0
/-- A view's id may be. -/
def okV (a b c : Int) : Bool := noneV a b c || (okC a && okM b c)
abbrev vM (a b : Int) : Value := .agg #[.int .i64 a, .int .i64 b]
abbrev vV (a b c : Int) : Value := .agg #[.int .i64 a, .int .i64 b, .int .i64 c]
/-- A member's bytes. -/
def layM (a b : Int) : List UInt8 := layN a ++ layN b
/-- A view's id's. -/
def layV (a b c : Int) : List UInt8 := layN a ++ layN b ++ layN c
theorem layM_length (a b : Int) : (layM a b).length = 8 := rfl
theorem layV_length (a b c : Int) : (layV a b c).length = 12 := rfl

/-- What a box holds still, when nothing below has turned. -/
theorem box_cell {w W1 : World} {cs : Array Value} {t : TypeId} (hb : Below (w.alloc (.cells cs t)).heap.size (w.alloc (.cells cs t)) W1) {n : Nat} {v : Value} (h : cs[n]? = some v) : W1.cell? ⟨w.heap.size, n, none⟩ = some v := by
  have h1 : (w.alloc (.cells cs t)).cell? ⟨w.heap.size, n, none⟩ = some v := by simp [h]
  exact (hb.cell (p := ⟨w.heap.size, n, none⟩) (by simp)).trans h1
theorem below_new2 (w : World) (o p : Obj) : Below w.heap.size w ((w.alloc o).alloc p) := (below_new w o).trans ((below_new _ p).mono (by simp))


set_option maxRecDepth 100000 in
theorem less_any (a b c d : Int) (w : World) : Calls Try.prog 40 #[vM a b, vM c d] w fun e W' => e = .returned (.bool (lessM a b c d)) ∧ Below w.heap.size w W' := by
  go_enter Try.func40, Try.ntmps40
  go_wp2
  all_goals go_ret
  all_goals exact ⟨rbool (by simp_all [lessM]), below_new2 _ _ _⟩

set_option maxRecDepth 100000 in
theorem none_any (a b c : Int) (w : World) : Calls Try.prog 30 #[vV a b c] w fun e W' => e = .returned (.bool (noneV a b c)) ∧ Below w.heap.size w W' := by
  go_enter Try.func30, Try.ntmps30
  go_wp2
  all_goals go_ret
  all_goals exact ⟨rbool (by simp_all [noneV]), below_new _ _⟩

set_option maxRecDepth 100000 in
theorem refMright_any (a b : Int) (w : World) : Calls Try.prog 6 #[vM a b] w fun e W' => e = .returned (.bool (okM a b)) ∧ Below w.heap.size w W' := by
  go_enter Try.func6, Try.ntmps6
  go_wp2
  all_goals go_ret
  all_goals exact ⟨rbool (by rw [Bool.eq_iff_iff]; simp [okM, okC]; try omega), below_new _ _⟩

end Go.Proofs.Ytkmlnglmecjmeaa


/- A world in which, below n, nothing but one block has turned; boxes of one's own. Of no program. No condition but those named. -/
namespace Go.Proofs.Ytkmlnglmecjmeaa
open Go Go.RowKit

/-- Below n all but block g is as it was. -/
structure Turn (g n : Nat) (w w' : World) : Prop where
  os : w'.os = w.os
  tape : w'.tape = w.tape
  output : w'.output = w.output
  size : w.heap.size ≤ w'.heap.size
  block : ∀ k, k < n → k ≠ g → w'.heap[k]? = w.heap[k]?
theorem Turn.refl (g n : Nat) (w : World) : Turn g n w w := ⟨rfl, rfl, rfl, Nat.le_refl _, fun _ _ _ => rfl⟩
theorem Turn.trans {g n : Nat} {a b c : World} (h : Turn g n a b) (k : Turn g n b c) : Turn g n a c := ⟨k.os.trans h.os, k.tape.trans h.tape, k.output.trans h.output, Nat.le_trans h.size k.size, fun j hj hg => (k.block j hj hg).trans (h.block j hj hg)⟩
theorem Turn.mono {g n m : Nat} {a b : World} (h : Turn g n a b) (hm : m ≤ n) : Turn g m a b := ⟨h.os, h.tape, h.output, h.size, fun j hj hg => h.block j (by omega) hg⟩
theorem Only.turn {g : Nat} {a b : World} (h : Only g a b) (n : Nat) : Turn g n a b := ⟨h.os, h.tape, h.output, Nat.le_of_eq h.size.symm, fun j _ hg => h.block j hg⟩
theorem turn_of {n : Nat} {a b : World} (h : Below n a b) (g : Nat) : Turn g n a b := ⟨h.os, h.tape, h.output, h.size, fun j hj _ => h.block j hj⟩
theorem Turn.below {g n B : Nat} {a b : World} (h : Turn g n a b) (hg : B ≤ g) (hn : B ≤ n) : Below B a b := ⟨h.os, h.tape, h.output, h.size, fun j hj => h.block j (by omega) (by omega)⟩
theorem Turn.drew {g n : Nat} {a w : World} (h : Turn g n a w) : Turn g n a w.drew := ⟨h.os, h.tape, h.output, h.size, h.block⟩
theorem Turn.set {g n : Nat} {a w : World} (h : Turn g n a w) {k : Nat} (hk : n ≤ k ∨ k = g) (i : Nat) (u : Value) : Turn g n a (w.setCell ⟨k, i, none⟩ u) :=
  h.trans ⟨rfl, rfl, rfl, by simp [World.setCell], fun j hj hg => Below.heap_setCell _ _ _ _ (show j ≠ k by omega)⟩
theorem Turn.alloc {g n : Nat} {a w : World} (h : Turn g n a w) (hn : n ≤ w.heap.size) (o : Obj) : Turn g n a (w.alloc o) :=
  h.trans ⟨rfl, rfl, rfl, by simp, fun j hj _ => Below.heap_alloc _ _ _ (by omega)⟩

/-- Block g holds these cells, and may be written to. -/
structure Box (w : World) (g : Nat) (cs : List Value) : Prop where
  c : ∀ i v, cs[i]? = some v → w.cell? ⟨g, i, none⟩ = some v
  f : ∀ i, i < cs.length → w.frozen? ⟨g, i, none⟩ = false
theorem Box.new (w : World) (cs : List Value) (t : TypeId) : Box (w.alloc (.cells cs.toArray t)) w.heap.size cs :=
  ⟨fun i v h => by simp [h], fun i h => by simp⟩
theorem Box.keep {w w' : World} {g : Nat} {cs : List Value} (h : Box w g cs) (e : w'.heap[g]? = w.heap[g]?) : Box w' g cs :=
  ⟨fun i v hv => (World.cell?_of_block (w := w) (a := ⟨g, i, none⟩) e).trans (h.c i v hv), fun i hi => (World.frozen?_of_block (w := w) (a := ⟨g, i, none⟩) e).trans (h.f i hi)⟩
theorem Box.below {w w' : World} {g n : Nat} {cs : List Value} (h : Box w g cs) (hb : Below n w w') (hg : g < n) : Box w' g cs := h.keep (hb.block g hg)
theorem Box.turn {w w' : World} {g k n : Nat} {cs : List Value} (h : Box w g cs) (hb : Turn k n w w') (hg : g < n) (hk : g ≠ k) : Box w' g cs := h.keep (hb.block g hg hk)
theorem Box.only {w w' : World} {g k : Nat} {cs : List Value} (h : Box w g cs) (hb : Only k w w') (hk : g ≠ k) : Box w' g cs := h.keep (hb.block g hk)
theorem Box.lt {w : World} {g : Nat} {v : Value} {cs : List Value} (h : Box w g (v :: cs)) : g < w.heap.size := World.block_lt_of_cell? w ⟨g, 0, none⟩ (h.c 0 v rfl)
theorem Box.next {w w' : World} {g : Nat} {v : Value} {cs : List Value} (h : Box w g (v :: cs)) (hb : Below w.heap.size w w') : Box w' g (v :: cs) := h.below hb h.lt

end Go.Proofs.Ytkmlnglmecjmeaa


/- Members and views' ids read; lodge/member's and the document's. Condition: the pointer points to a Left in a state, of at most n bytes, fewer than 2^63. -/
namespace Go.Proofs.Ytkmlnglmecjmeaa
open Go.RowKit
set_option linter.unusedVariables false

/-- What is left when a member was read, or that it went wrong. -/
def memSt (st : Option (List UInt8)) : Option (List UInt8) := if okM (numOf st 7) (numOf (numSt st 7) 2147483647) then numSt (numSt st 7) 2147483647 else none
def memOf (st : Option (List UInt8)) : Int × Int := if (memSt st).isSome then (numOf st 7, numOf (numSt st 7) 2147483647) else (0, 0)
def idSt (st : Option (List UInt8)) : Option (List UInt8) := if okV (numOf st 2147483647) (numOf (numSt st 2147483647) 7) (numOf (numSt (numSt st 2147483647) 7) 2147483647) then numSt (numSt (numSt st 2147483647) 7) 2147483647 else none
def idOf (st : Option (List UInt8)) : Int × Int × Int := if (idSt st).isSome then (numOf st 2147483647, numOf (numSt st 2147483647) 7, numOf (numSt (numSt st 2147483647) 7) 2147483647) else (0, 0, 0)


end Go.Proofs.Ytkmlnglmecjmeaa


/- Laid numbers and texts, as lists of bytes: order, beginnings, there and back. Plain arithmetic. No condition but those named. -/
namespace Go.Proofs.Ytkmlnglmecjmeaa
open Go

theorem less_step (a b : UInt8) (x y : List UInt8) : Op.bytesLess (a :: x) (b :: y) = (decide (a < b) || (a == b && Op.bytesLess x y)) := rfl
theorem u8_lt (a b : Nat) : (UInt8.ofNat a < UInt8.ofNat b) ↔ a % 256 < b % 256 := by
  rw [UInt8.lt_iff_toNat_lt]; simp
theorem u8_eq (a b : Nat) : (UInt8.ofNat a = UInt8.ofNat b) ↔ a % 256 = b % 256 := by
  rw [← UInt8.toNat_inj]; simp
theorem four_digs {m : Nat} (h : m < 4294967296) : ∃ a b c d : Nat, m / 16777216 % 256 = a ∧ m / 65536 % 256 = b ∧ m / 256 % 256 = c ∧ m % 256 = d ∧ a < 256 ∧ b < 256 ∧ c < 256 ∧ d < 256 ∧ m = a * 16777216 + b * 65536 + c * 256 + d :=
  ⟨_, _, _, _, rfl, rfl, rfl, rfl, by omega, by omega, by omega, by omega, by omega⟩
theorem be4_less {m n : Nat} (hm : m < 4294967296) (hn : n < 4294967296) : Op.bytesLess (be4 m) (be4 n) = decide (m < n) := by
  unfold be4
  rw [less_step, less_step, less_step, less_step, show Op.bytesLess [] [] = false from rfl, Bool.eq_iff_iff]
  simp only [Bool.or_eq_true, Bool.and_eq_true, decide_eq_true_eq, beq_iff_eq, u8_lt, u8_eq, Bool.and_false, Bool.or_false]
  obtain ⟨a0, a1, a2, a3, p0, p1, p2, p3, q0, q1, q2, q3, hp⟩ := four_digs hm
  obtain ⟨b0, b1, b2, b3, r0, r1, r2, r3, t0, t1, t2, t3, hr⟩ := four_digs hn
  rw [p0, p1, p2, p3, r0, r1, r2, r3]
  clear p0 p1 p2 p3 r0 r1 r2 r3
  omega
theorem layN_less {m n : Nat} (hm : m < 2147483648) (hn : n < 2147483648) : Op.bytesLess (layN (m : Int)) (layN (n : Int)) = decide (m < n) := by
  unfold layN
  rw [low31_nat m hm, low31_nat n hn, be4_less (by omega) (by omega)]
theorem nb4_layN {n : Nat} (h : n < 2147483648) (r : List UInt8) : nb4 (layN (n : Int) ++ r) = n := by
  unfold layN
  rw [low31_nat n h, nb4_be4 _ _ (by omega)]
theorem nb4_layT {l : List UInt8} (h : l.length < 2147483648) (r : List UInt8) : nb4 (layT l ++ r) = l.length := by
  unfold layT
  rw [List.append_assoc, nb4_layN h]
theorem drop_layN (n : Int) (r : List UInt8) : (layN n ++ r).drop 4 = r := by
  have : (layN n ++ r).drop (layN n).length = r := List.drop_left
  exact this
theorem drop_layT (l r : List UInt8) : (layT l ++ r).drop 4 = l ++ r := by
  unfold layT
  rw [List.append_assoc, drop_layN]
/-- Of unlike texts none's bytes begin another one's. -/
theorem layT_begins {s t : List UInt8} (hs : s.length < 2147483648) (ht : t.length < 2147483648) (h : (layT t).take (layT s).length = layT s) : s = t := by
  have e1 : nb4 (layT s ++ []) = nb4 (layT t ++ []) := by
    conv => lhs; rw [← h]
    rw [List.append_nil, List.append_nil]
    have h4 : 4 ≤ (layT s).length := by rw [layT_length]; omega
    unfold nb4
    simp only [List.getD_eq_getElem?_getD, List.getElem?_take]
    rw [if_pos (by omega), if_pos (by omega), if_pos (by omega), if_pos (by omega)]
  rw [nb4_layT hs, nb4_layT ht] at e1
  rw [List.take_of_length_le (by rw [layT_length, layT_length]; omega)] at h
  have e2 := drop_layT s []
  rw [← h, drop_layT t [], List.append_nil, List.append_nil] at e2
  exact e2.symm

end Go.Proofs.Ytkmlnglmecjmeaa


/- Members and views' ids, there and back: plain facts. No condition but those named. -/
namespace Go.Proofs.Ytkmlnglmecjmeaa
open Go
set_option linter.unusedVariables false

theorem okC_low {n : Int} (h : okC n = true) : ((low31 n : Nat) : Int) = n := by
  simp only [okC, Bool.and_eq_true, decide_eq_true_eq] at h
  unfold low31
  omega
theorem okM_low {a b : Int} (h : okM a b = true) : ((low31 a : Nat) : Int) = a ∧ ((low31 b : Nat) : Int) = b := by
  have h2 := h
  simp only [okM, Bool.and_eq_true, decide_eq_true_eq] at h2
  refine ⟨?_, okC_low h2.2⟩
  unfold low31
  omega
theorem okV_low {a b c : Int} (h : okV a b c = true) : ((low31 a : Nat) : Int) = a ∧ ((low31 b : Nat) : Int) = b ∧ ((low31 c : Nat) : Int) = c := by
  simp only [okV, Bool.or_eq_true, Bool.and_eq_true] at h
  rcases h with h | ⟨h1, h2⟩
  · simp only [noneV, Bool.and_eq_true, beq_iff_eq] at h
    obtain ⟨⟨rfl, rfl⟩, rfl⟩ := h
    exact ⟨rfl, rfl, rfl⟩
  · exact ⟨okC_low h1, okM_low h2⟩
theorem nb4_lay (a : Int) (r : List UInt8) : nb4 (layN a ++ r) = low31 a := nb4_be4 _ _ (by have := low31_lt a; omega)
theorem hasN_lay (a : Int) (r : List UInt8) (m : Int) : hasN (layN a ++ r) false m ↔ ((low31 a : Nat) : Int) ≤ m := by
  unfold hasN
  rw [nb4_lay]
  have := low31_lt a
  have hl : 4 ≤ (layN a ++ r).length := by rw [List.length_append, layN_length]; omega
  constructor
  · intro h; exact h.2.2.2
  · intro h; exact ⟨rfl, hl, this, h⟩
theorem numOf_lay (a : Int) (r : List UInt8) (m : Int) : numOf (some (layN a ++ r)) m = if ((low31 a : Nat) : Int) ≤ m then ((low31 a : Nat) : Int) else 0 := by
  simp only [numOf, hasN_lay, nb4_lay]
theorem numSt_lay (a : Int) (r : List UInt8) (m : Int) : numSt (some (layN a ++ r)) m = if ((low31 a : Nat) : Int) ≤ m then some r else none := by
  simp only [numSt, hasN_lay, drop_layN]
/-- What may be is read as it was. -/
theorem mem_back {a b : Int} (h : okM a b = true) (r : List UInt8) : memSt (some (layM a b ++ r)) = some r ∧ memOf (some (layM a b ++ r)) = (a, b) := by
  obtain ⟨ha, hb⟩ := okM_low h
  have h2 := h
  simp only [okM, okC, Bool.and_eq_true, decide_eq_true_eq] at h2
  have e0 : numOf (some (layM a b ++ r)) 7 = a := by
    rw [layM, List.append_assoc, numOf_lay, ha, if_pos (by omega)]
  have e1 : numSt (some (layM a b ++ r)) 7 = some (layN b ++ r) := by
    rw [layM, List.append_assoc, numSt_lay, ha, if_pos (by omega)]
  have e2 : numOf (some (layN b ++ r)) 2147483647 = b := by rw [numOf_lay, hb, if_pos (by omega)]
  have e3 : numSt (some (layN b ++ r)) 2147483647 = some r := by rw [numSt_lay, hb, if_pos (by omega)]
  have s : memSt (some (layM a b ++ r)) = some r := by
    unfold memSt
    rw [e0, e1, e2, e3, if_pos h]
  refine ⟨s, ?_⟩
  unfold memOf
  rw [s, e0, e1, e2]
  rfl
theorem id_back {a b c : Int} (h : okV a b c = true) (r : List UInt8) : idSt (some (layV a b c ++ r)) = some r ∧ idOf (some (layV a b c ++ r)) = (a, b, c) := by
  obtain ⟨ha, hb, hc⟩ := okV_low h
  have h2 := h
  simp only [okV, noneV, okM, okC, Bool.or_eq_true, Bool.and_eq_true, decide_eq_true_eq, beq_iff_eq] at h2
  have e0 : numOf (some (layV a b c ++ r)) 2147483647 = a := by
    rw [layV, List.append_assoc, List.append_assoc, numOf_lay, ha, if_pos (by omega)]
  have e1 : numSt (some (layV a b c ++ r)) 2147483647 = some (layN b ++ (layN c ++ r)) := by
    rw [layV, List.append_assoc, List.append_assoc, numSt_lay, ha, if_pos (by omega)]
  have e2 : numOf (some (layN b ++ (layN c ++ r))) 7 = b := by rw [numOf_lay, hb, if_pos (by omega)]
  have e3 : numSt (some (layN b ++ (layN c ++ r))) 7 = some (layN c ++ r) := by rw [numSt_lay, hb, if_pos (by omega)]
  have e4 : numOf (some (layN c ++ r)) 2147483647 = c := by rw [numOf_lay, hc, if_pos (by omega)]
  have e5 : numSt (some (layN c ++ r)) 2147483647 = some r := by rw [numSt_lay, hc, if_pos (by omega)]
  have s : idSt (some (layV a b c ++ r)) = some r := by
    unfold idSt
    rw [e0, e1, e2, e3, e4, e5, if_pos h]
  refine ⟨s, ?_⟩
  unfold idOf
  rw [s, e0, e1, e2, e3, e4]
  rfl
/-- What was read may be; what went wrong is nobody. -/
theorem mem_none {st : Option (List UInt8)} (h : memSt st = none) : memOf st = (0, 0) := by
  unfold memOf
  rw [h]
  rfl
theorem mem_some {st : Option (List UInt8)} {r : List UInt8} (h : memSt st = some r) : okM (memOf st).1 (memOf st).2 = true := by
  have e : memOf st = (numOf st 7, numOf (numSt st 7) 2147483647) := by
    unfold memOf
    rw [h]
    rfl
  rw [e]
  unfold memSt at h
  cases hk : okM (numOf st 7) (numOf (numSt st 7) 2147483647) with
  | true => rfl
  | false => rw [hk] at h; cases h
theorem id_none {st : Option (List UInt8)} (h : idSt st = none) : idOf st = (0, 0, 0) := by
  unfold idOf
  rw [h]
  rfl
theorem id_some {st : Option (List UInt8)} {r : List UInt8} (h : idSt st = some r) : okV (idOf st).1 (idOf st).2.1 (idOf st).2.2 = true := by
  have e : idOf st = (numOf st 2147483647, numOf (numSt st 2147483647) 7, numOf (numSt (numSt st 2147483647) 7) 2147483647) := by
    unfold idOf
    rw [h]
    rfl
  rw [e]
  unfold idSt at h
  cases hk : okV (numOf st 2147483647) (numOf (numSt st 2147483647) 7) (numOf (numSt (numSt st 2147483647) 7) 2147483647) with
  | true => rfl
  | false => rw [hk] at h; cases h
/-- Unlike ones that may be have unlike bytes. -/
theorem layM_inj {a b c d : Int} (h : okM a b = true) (h' : okM c d = true) (e : layM a b = layM c d) : a = c ∧ b = d := by
  have h1 := (mem_back h []).2
  rw [e, (mem_back h' []).2] at h1
  injection h1 with h1 h2
  exact ⟨h1.symm, h2.symm⟩
theorem layV_inj {a b c d e f : Int} (h : okV a b c = true) (h' : okV d e f = true) (hh : layV a b c = layV d e f) : a = d ∧ b = e ∧ c = f := by
  have h1 := (id_back h []).2
  rw [hh, (id_back h' []).2] at h1
  injection h1 with h1 h2
  injection h2 with h2 h3
  exact ⟨h1.symm, h2.symm, h3.symm⟩
/-- The order. -/
theorem lessM_iff (a b c d : Int) : lessM a b c d = true ↔ (a < c ∨ (a = c ∧ b < d)) := by
  simp [lessM]

end Go.Proofs.Ytkmlnglmecjmeaa


/- Trees as lists of spots: parts and where they end, leaves, whether they may be, heights, bytes, and back. Plain: of no program. No condition but those named. -/
namespace Go.Proofs.Ytkmlnglmecjmeaa
open Go.RowKit
set_option linter.unusedVariables false

/-- A spot: whether it is a leaf, and its member. -/
abbrev Sp := Bool × Int × Int
/-- From a place on, so many parts wanted: the place behind them, or -1. -/
def fin : Nat → Nat → List Sp → Int
  | _, _, [] => -1
  | o, i, s :: l => if (if s.1 then o - 1 else o + 1) = 0 then ((i + 1 : Nat) : Int) else fin (if s.1 then o - 1 else o + 1) (i + 1) l
/-- Where the part that begins there ends. -/
def endI (l : List Sp) (p : Int) : Int := if 0 ≤ p then fin 1 p.toNat (l.drop p.toNat) else -1
def lv (l : List Sp) : List (Int × Int) := (l.filter (fun s => s.1)).map (fun s => s.2)
def noWho (s : Sp) : Bool := s.1 || (s.2.1 == 0 && s.2.2 == 0)
def okAt (m : List (Int × Int)) (i : Nat) : Bool := okM (m.getD i (0, 0)).1 (m.getD i (0, 0)).2 && !decide (m.getD i (0, 0) ∈ m.take i)
def once (m : List (Int × Int)) : Bool := (List.range m.length).all (okAt m)
/-- It may be a tree. -/
def okT (l : List Sp) : Bool := l.isEmpty || (decide (l.length ≤ 128) && (endI l 0 == (l.length : Int)) && l.all noWho && once (lv l))

inductive Tr where
  | leaf (a b : Int)
  | inner (a b : Int) (l r : Tr)
def flat : Tr → List Sp
  | .leaf a b => [(true, a, b)]
  | .inner a b l r => (false, a, b) :: (flat l ++ flat r)
def ht : Tr → Int
  | .leaf _ _ => 0
  | .inner _ _ l r => 1 + max (ht l) (ht r)
theorem flat_pos (t : Tr) : 0 < (flat t).length := by cases t <;> simp [flat]
theorem flat_ne (t : Tr) : flat t ≠ [] := by cases t <;> simp [flat]

theorem fin_flat (t : Tr) : ∀ (o i : Nat) (r : List Sp), fin (o + 1) i (flat t ++ r) = if o = 0 then ((i + (flat t).length : Nat) : Int) else fin o (i + (flat t).length) r := by
  induction t with
  | leaf a b =>
    intro o i r
    simp [flat, fin]
  | inner a b l r ihl ihr =>
    intro o i rest
    simp only [flat, List.cons_append, List.append_assoc]
    rw [fin]
    simp only [Bool.false_eq_true, if_false]
    rw [if_neg (by omega), ihl (o + 1) (i + 1), if_neg (by omega), ihr o]
    simp only [List.length_cons, List.length_append]
    by_cases h : o = 0
    · rw [if_pos h, if_pos h]; congr 1; omega
    · rw [if_neg h, if_neg h]; congr 1; omega
theorem fin_parse : ∀ (n : Nat) (l : List Sp), l.length ≤ n → ∀ o i, fin (o + 1) i l ≠ -1 → ∃ t r, l = flat t ++ r := by
  intro n
  induction n with
  | zero =>
    intro l hl o i h
    have : l = [] := List.eq_nil_of_length_eq_zero (by omega)
    subst this
    exact absurd rfl h
  | succ n ih =>
    intro l hl o i h
    match l, hl, h with
    | [], _, h => exact absurd rfl h
    | (true, a, b) :: l, _, _ => exact ⟨.leaf a b, l, rfl⟩
    | (false, a, b) :: l, hl, h =>
      rw [fin] at h
      simp only [Bool.false_eq_true, if_false] at h
      rw [if_neg (by omega)] at h
      simp only [List.length_cons] at hl
      obtain ⟨t1, r1, rfl⟩ := ih l (by omega) _ _ h
      rw [fin_flat, if_neg (by omega)] at h
      simp only [List.length_append] at hl
      obtain ⟨t2, r2, rfl⟩ := ih r1 (by omega) _ _ h
      exact ⟨.inner a b t1 t2, r2, by simp [flat]⟩
theorem endI_part (l : List Sp) (p : Nat) (t : Tr) (r : List Sp) (h : l.drop p = flat t ++ r) : endI l (p : Int) = ((p + (flat t).length : Nat) : Int) := by
  unfold endI
  rw [if_pos (by omega)]
  simp only [Int.toNat_natCast]
  rw [h, fin_flat t 0]
  rfl
theorem endI_flat (t : Tr) : endI (flat t) 0 = ((flat t).length : Int) := by
  have := endI_part (flat t) 0 t [] (by simp)
  simpa using this
theorem whole_of {l : List Sp} (hp : l ≠ []) (h : endI l 0 = (l.length : Int)) : ∃ t, l = flat t := by
  have h1 : fin 1 0 l = (l.length : Int) := by simpa [endI] using h
  obtain ⟨t, r, rfl⟩ := fin_parse l.length l (Nat.le_refl _) 0 0 (by rw [h1]; omega)
  rw [fin_flat, if_pos rfl] at h1
  simp only [List.length_append] at h1
  have : r = [] := List.eq_nil_of_length_eq_zero (by omega)
  exact ⟨t, by rw [this, List.append_nil]⟩

theorem lv_append (a b : List Sp) : lv (a ++ b) = lv a ++ lv b := by simp [lv]
theorem lv_length_le (l : List Sp) : (lv l).length ≤ l.length := by
  unfold lv
  rw [List.length_map]
  exact List.length_filter_le _ _
theorem flat_counts (t : Tr) : (flat t).length + 1 = 2 * (lv (flat t)).length := by
  induction t with
  | leaf a b => rfl
  | inner a b l r ihl ihr =>
    have e : lv (flat (.inner a b l r)) = lv (flat l) ++ lv (flat r) := by
      rw [← lv_append]; rfl
    rw [e]
    simp only [flat, List.length_cons, List.length_append]
    omega
theorem ht_nonneg (t : Tr) : 0 ≤ ht t := by
  induction t with
  | leaf a b => exact Int.le_refl _
  | inner a b l r ihl ihr => simp only [ht]; omega
theorem ht_lt (t : Tr) : ht t < ((lv (flat t)).length : Int) := by
  induction t with
  | leaf a b => simp [ht, lv, flat]
  | inner a b l r ihl ihr =>
    have e : lv (flat (.inner a b l r)) = lv (flat l) ++ lv (flat r) := by
      rw [← lv_append]; rfl
    rw [e]
    simp only [ht, List.length_append]
    have h1 := flat_counts l
    have h2 := flat_counts r
    have h3 := flat_pos l
    have h4 := flat_pos r
    omega
theorem ht_le (t : Tr) : ht t < ((flat t).length : Int) := by
  have h1 := ht_lt t
  have h2 := lv_length_le (flat t)
  omega
theorem flat_last (t : Tr) : ∃ (xs : List Sp) (a b : Int), flat t = xs ++ [(true, a, b)] := by
  induction t with
  | leaf a b => exact ⟨[], a, b, rfl⟩
  | inner a b l r ihl ihr =>
    obtain ⟨xs, c, d, e⟩ := ihr
    exact ⟨(false, a, b) :: (flat l ++ xs), c, d, by simp [flat, e]⟩
/-- Wherever one looks in a tree a part of it begins. -/
theorem flat_drop (t : Tr) : ∀ i, i < (flat t).length → ∃ u r, (flat t).drop i = flat u ++ r := by
  induction t with
  | leaf a b =>
    intro i hi
    have : i = 0 := by simp [flat] at hi; omega
    subst this
    exact ⟨.leaf a b, [], by simp⟩
  | inner a b l r ihl ihr =>
    intro i hi
    cases i with
    | zero => exact ⟨.inner a b l r, [], by simp⟩
    | succ j =>
      simp only [flat, List.length_cons, List.length_append] at hi
      simp only [flat, List.drop_succ_cons]
      by_cases hj : j < (flat l).length
      · obtain ⟨u, s, e⟩ := ihl j hj
        rw [List.drop_append_of_le_length (by omega), e]
        exact ⟨u, s ++ flat r, by simp⟩
      · obtain ⟨u, s, e⟩ := ihr (j - (flat l).length) (by omega)
        refine ⟨u, s, ?_⟩
        rw [List.drop_append, List.drop_of_length_le (by omega), List.nil_append, e]

theorem okT_nil : okT [] = true := rfl
theorem okT_flat {l : List Sp} (h : okT l = true) (hp : l ≠ []) : ∃ t, l = flat t := by
  unfold okT at h
  simp only [Bool.or_eq_true, List.isEmpty_iff, Bool.and_eq_true, decide_eq_true_eq, beq_iff_eq] at h
  rcases h with h | h
  · exact absurd h hp
  · exact whole_of hp h.1.1.2
theorem okT_parts {l : List Sp} (h : okT l = true) : l.length ≤ 128 ∧ l.all noWho = true ∧ once (lv l) = true := by
  unfold okT at h
  simp only [Bool.or_eq_true, List.isEmpty_iff, Bool.and_eq_true, decide_eq_true_eq, beq_iff_eq] at h
  rcases h with h | h
  · subst h; exact ⟨Nat.zero_le _, rfl, rfl⟩
  · exact ⟨h.1.1.1, h.1.2, h.2⟩
/-- A tree that may be has at most 64 leaves. -/
theorem okT_few {l : List Sp} (h : okT l = true) : (lv l).length ≤ 64 := by
  by_cases hp : l = []
  · subst hp; exact Nat.zero_le _
  · obtain ⟨t, rfl⟩ := okT_flat h hp
    have h1 := flat_counts t
    have h2 := (okT_parts h).1
    omega
theorem once_ok {m : List (Int × Int)} (h : once m = true) {x : Int × Int} (hx : x ∈ m) : okM x.1 x.2 = true := by
  obtain ⟨i, hi, rfl⟩ := List.getElem_of_mem hx
  unfold once at h
  rw [List.all_eq_true] at h
  have := h i (by simpa using hi)
  unfold okAt at this
  simp only [Bool.and_eq_true] at this
  have e : m.getD i (0, 0) = m[i] := by simp [hi]
  rw [e] at this
  exact this.1
theorem mem_lv {l : List Sp} {s : Sp} (h : s ∈ l) (hs : s.1 = true) : s.2 ∈ lv l := by
  unfold lv
  exact List.mem_map.2 ⟨s, List.mem_filter.2 ⟨h, hs⟩, rfl⟩
/-- Of a tree that may be each spot is a member's leaf, or nobody's. -/
def okS (s : Sp) : Bool := (s.1 && okM s.2.1 s.2.2) || (!s.1 && s.2.1 == 0 && s.2.2 == 0)
theorem okT_each {l : List Sp} (h : okT l = true) {s : Sp} (hs : s ∈ l) : okS s = true := by
  obtain ⟨_, h1, h2⟩ := okT_parts h
  obtain ⟨f, a, b⟩ := s
  cases f with
  | true =>
    have := once_ok h2 (mem_lv hs rfl)
    simp [okS, this]
  | false =>
    have := (List.all_eq_true.1 h1) _ hs
    simpa [okS, noWho] using this

/-- A spot's bytes; a tree's. -/
def layS (s : Sp) : List UInt8 := if s.1 then layN 1 ++ layM s.2.1 s.2.2 else layN 0
def laySs (l : List Sp) : List UInt8 := l.flatMap layS
def layTr (l : List Sp) : List UInt8 := layN (l.length : Int) ++ laySs l
theorem laySs_snoc (l : List Sp) (s : Sp) : laySs (l ++ [s]) = laySs l ++ layS s := by simp [laySs]
theorem layS_le (s : Sp) : (layS s).length ≤ 12 := by
  unfold layS
  split
  · simp [layN_length, layM_length]
  · simp [layN_length]
theorem laySs_le (l : List Sp) : (laySs l).length ≤ 12 * l.length := by
  induction l with
  | nil => simp [laySs]
  | cons s l ih =>
    have := layS_le s
    simp only [laySs, List.flatMap_cons, List.length_append, List.length_cons] at *
    omega
theorem layTr_le (l : List Sp) : (layTr l).length ≤ 4 + 12 * l.length := by
  have := laySs_le l
  simp only [layTr, List.length_append, layN_length]
  omega

/-- What the next spot is read as, and what is left. -/
def spSt (st : Option (List UInt8)) : Option (List UInt8) := if numOf st 1 = 0 then numSt st 1 else memSt (numSt st 1)
def spOf (st : Option (List UInt8)) : Sp := if numOf st 1 = 0 then (false, 0, 0) else (true, memOf (numSt st 1))
def rdSt : Nat → Option (List UInt8) → Option (List UInt8)
  | 0, st => st
  | k + 1, st => rdSt k (spSt st)
def rdOf : Nat → Option (List UInt8) → List Sp
  | 0, _ => []
  | k + 1, st => spOf st :: rdOf k (spSt st)
theorem rdSt_succ (k : Nat) : ∀ st, rdSt (k + 1) st = spSt (rdSt k st) := by
  induction k with
  | zero => intro st; rfl
  | succ k ih => intro st; rw [rdSt, ih]; rfl
theorem rdOf_succ (k : Nat) : ∀ st, rdOf (k + 1) st = rdOf k st ++ [spOf (rdSt k st)] := by
  induction k with
  | zero => intro st; rfl
  | succ k ih => intro st; rw [rdOf, ih]; rfl
theorem rdOf_length (k : Nat) : ∀ st, (rdOf k st).length = k := by
  induction k with
  | zero => intro st; rfl
  | succ k ih => intro st; simp [rdOf, ih]
theorem numOf_none (m : Int) : numOf none m = 0 := rfl
theorem numSt_none (m : Int) : numSt none m = none := rfl
theorem spSt_none : spSt none = none := rfl
theorem rdSt_none (k : Nat) : rdSt k none = none := by
  induction k with
  | zero => rfl
  | succ k ih => rw [rdSt, spSt_none, ih]
theorem rdSt_bad {k n : Nat} (h : k ≤ n) {st : Option (List UInt8)} (hb : rdSt k st = none) : rdSt n st = none := by
  induction h with
  | refl => exact hb
  | step h ih => rw [rdSt_succ, ih]; rfl
def treeN (st : Option (List UInt8)) : Nat := (numOf st 128).toNat
def treeOk (st : Option (List UInt8)) : Bool := (rdSt (treeN st) (numSt st 128)).isSome && okT (rdOf (treeN st) (numSt st 128))
def treeSt (st : Option (List UInt8)) : Option (List UInt8) := if treeOk st then rdSt (treeN st) (numSt st 128) else none
def treeOf (st : Option (List UInt8)) : List Sp := if treeOk st then rdOf (treeN st) (numSt st 128) else []

theorem hasN_fields {l : List UInt8} {m : Int} (h : hasN l false m) : 4 ≤ l.length ∧ (nb4 l : Int) ≤ m := by
  obtain ⟨_, h1, _, h2⟩ := h
  exact ⟨h1, h2⟩
theorem numOf_range (st : Option (List UInt8)) (m : Int) (hm : 0 ≤ m) : 0 ≤ numOf st m ∧ numOf st m ≤ m := by
  cases st with
  | none => exact ⟨Int.le_refl _, hm⟩
  | some l =>
    unfold numOf
    by_cases h : hasN l false m
    · simp only [h, if_true]
      exact ⟨by omega, (hasN_fields h).2⟩
    · simp only [h, if_false]
      exact ⟨Int.le_refl _, hm⟩

/-- There and back. -/
theorem sp_back {s : Sp} (h : okS s = true) (r : List UInt8) : spSt (some (layS s ++ r)) = some r ∧ spOf (some (layS s ++ r)) = s := by
  obtain ⟨f, a, b⟩ := s
  cases f with
  | true =>
    have hk : okM a b = true := by simpa [okS] using h
    obtain ⟨m1, m2⟩ := mem_back hk r
    have e0 : numOf (some (layS (true, a, b) ++ r)) 1 = 1 := by
      show numOf (some ((layN 1 ++ layM a b) ++ r)) 1 = 1
      rw [List.append_assoc, numOf_lay]; rfl
    have e1 : numSt (some (layS (true, a, b) ++ r)) 1 = some (layM a b ++ r) := by
      show numSt (some ((layN 1 ++ layM a b) ++ r)) 1 = _
      rw [List.append_assoc, numSt_lay]; rfl
    unfold spSt spOf
    rw [e0, e1, m1, m2]
    exact ⟨rfl, rfl⟩
  | false =>
    have hk : a = 0 ∧ b = 0 := by simpa [okS] using h
    obtain ⟨rfl, rfl⟩ := hk
    have e0 : numOf (some (layS (false, 0, 0) ++ r)) 1 = 0 := by
      show numOf (some (layN 0 ++ r)) 1 = 0
      rw [numOf_lay]; rfl
    have e1 : numSt (some (layS (false, 0, 0) ++ r)) 1 = some r := by
      show numSt (some (layN 0 ++ r)) 1 = _
      rw [numSt_lay]; rfl
    unfold spSt spOf
    rw [e0, e1]
    exact ⟨rfl, rfl⟩
theorem rd_back : ∀ (l : List Sp) (h : ∀ s ∈ l, okS s = true) (r : List UInt8), rdSt l.length (some (laySs l ++ r)) = some r ∧ rdOf l.length (some (laySs l ++ r)) = l
  | [], _, r => ⟨rfl, rfl⟩
  | s :: l, h, r => by
    obtain ⟨h1, h2⟩ := sp_back (h s (by simp)) (laySs l ++ r)
    obtain ⟨h3, h4⟩ := rd_back l (fun x hx => h x (by simp [hx])) r
    have e : laySs (s :: l) ++ r = layS s ++ (laySs l ++ r) := by simp [laySs]
    rw [e, List.length_cons]
    simp only [rdSt, rdOf]
    rw [h1, h2, h3, h4]
    exact ⟨rfl, rfl⟩
theorem tree_back {l : List Sp} (h : okT l = true) (r : List UInt8) : treeSt (some (layTr l ++ r)) = some r ∧ treeOf (some (layTr l ++ r)) = l := by
  obtain ⟨hn, _, _⟩ := okT_parts h
  have el : ((low31 (l.length : Int) : Nat) : Int) = (l.length : Int) := by rw [low31_nat _ (by omega)]
  have e0 : numOf (some (layTr l ++ r)) 128 = (l.length : Int) := by
    rw [layTr, List.append_assoc, numOf_lay, el, if_pos (by omega)]
  have e1 : numSt (some (layTr l ++ r)) 128 = some (laySs l ++ r) := by
    rw [layTr, List.append_assoc, numSt_lay, el, if_pos (by omega)]
  have en : treeN (some (layTr l ++ r)) = l.length := by rw [treeN, e0]; rfl
  obtain ⟨h1, h2⟩ := rd_back l (fun s hs => okT_each h hs) r
  have ek : treeOk (some (layTr l ++ r)) = true := by rw [treeOk, en, e1, h1, h2, h]; rfl
  rw [treeSt, treeOf, ek, en, e1, h1, h2]
  exact ⟨rfl, rfl⟩
theorem layTr_inj {a b : List Sp} (ha : okT a = true) (hb : okT b = true) (h : layTr a = layTr b) : a = b := by
  have h1 := (tree_back ha []).2
  rw [h, (tree_back hb []).2] at h1
  exact h1.symm

/-- What was read is what its bytes say. -/
theorem be4_nb4 : ∀ (l : List UInt8), 4 ≤ l.length → be4 (nb4 l) ++ l.drop 4 = l
  | a :: b :: c :: d :: r, _ => by
    have ha := UInt8.toNat_lt a
    have hb := UInt8.toNat_lt b
    have hc := UInt8.toNat_lt c
    have hd := UInt8.toNat_lt d
    have e : nb4 (a :: b :: c :: d :: r) = a.toNat * 16777216 + b.toNat * 65536 + c.toNat * 256 + d.toNat := rfl
    rw [e]
    have g : ∀ (x : UInt8) (n : Nat), n % 256 = x.toNat → UInt8.ofNat n = x := fun x n h => by
      apply UInt8.toNat_inj.1
      rw [UInt8.toNat_ofNat']
      exact h
    show [_, _, _, _] ++ r = _
    rw [g a _ (by omega), g b _ (by omega), g c _ (by omega), g d _ (by omega)]
    rfl
theorem num_inv {st : Option (List UInt8)} {m : Int} {r : List UInt8} (hm : m ≤ 2147483647) (h : numSt st m = some r) : st = some (layN (numOf st m) ++ r) := by
  cases st with
  | none => cases h
  | some l =>
    unfold numSt at h
    by_cases hn : hasN l false m
    · simp only [hn, if_true, Option.some.injEq] at h
      obtain ⟨h4, hle⟩ := hasN_fields hn
      have e : numOf (some l) m = (nb4 l : Int) := by simp only [numOf, hn, if_true]
      rw [e, layN, low31_nat _ (by omega), ← h, be4_nb4 l h4]
    · simp only [hn, if_false] at h
      cases h
theorem mem_inv {st : Option (List UInt8)} {r : List UInt8} (h : memSt st = some r) : st = some (layM (memOf st).1 (memOf st).2 ++ r) := by
  have e : memOf st = (numOf st 7, numOf (numSt st 7) 2147483647) := by
    unfold memOf
    rw [h]
    rfl
  unfold memSt at h
  cases hk : okM (numOf st 7) (numOf (numSt st 7) 2147483647) with
  | false => rw [hk] at h; cases h
  | true =>
    rw [hk, if_pos rfl] at h
    have h2 := num_inv (by omega) h
    have h3 := num_inv (m := 7) (by omega) h2
    rw [e]
    simp only [layM, List.append_assoc]
    exact h3
theorem sp_inv {st : Option (List UInt8)} {r : List UInt8} (h : spSt st = some r) : st = some (layS (spOf st) ++ r) := by
  unfold spSt at h
  unfold spOf
  by_cases hz : numOf st 1 = 0
  · rw [if_pos hz] at h
    rw [if_pos hz]
    have := num_inv (by omega) h
    rw [hz] at this
    exact this
  · rw [if_neg hz] at h
    rw [if_neg hz]
    have h1 : numOf st 1 = 1 := by
      have := numOf_range st 1 (by omega)
      omega
    have h2 := mem_inv h
    have h3 := num_inv (m := 1) (by omega) h2
    rw [h1] at h3
    show st = some ((layN 1 ++ layM (memOf (numSt st 1)).1 (memOf (numSt st 1)).2) ++ r)
    rw [List.append_assoc]
    exact h3
theorem rd_inv : ∀ (k : Nat) (st : Option (List UInt8)) (r : List UInt8), rdSt k st = some r → st = some (laySs (rdOf k st) ++ r)
  | 0, st, r, h => h
  | k + 1, st, r, h => by
    have h1 := rd_inv k (spSt st) r h
    have h2 := sp_inv h1
    show st = some (laySs (spOf st :: rdOf k (spSt st)) ++ r)
    have e : laySs (spOf st :: rdOf k (spSt st)) ++ r = layS (spOf st) ++ (laySs (rdOf k (spSt st)) ++ r) := by simp [laySs]
    rw [e]
    exact h2
theorem tree_inv {st : Option (List UInt8)} {r : List UInt8} (h : treeSt st = some r) : st = some (layTr (treeOf st) ++ r) ∧ okT (treeOf st) = true := by
  unfold treeSt at h
  cases hk : treeOk st with
  | false => rw [hk] at h; cases h
  | true =>
    rw [hk, if_pos rfl] at h
    have e : treeOf st = rdOf (treeN st) (numSt st 128) := by rw [treeOf, hk, if_pos rfl]
    have h1 := rd_inv _ _ _ h
    have h2 := num_inv (by omega) h1
    have h0 := numOf_range st 128 (by omega)
    rw [e]
    constructor
    · rw [layTr, rdOf_length, List.append_assoc]
      have : ((treeN st : Nat) : Int) = numOf st 128 := by unfold treeN; omega
      rw [this]
      exact h2
    · unfold treeOk at hk
      rw [Bool.and_eq_true] at hk
      exact hk.2
theorem tree_none {st : Option (List UInt8)} (h : treeSt st = none) : treeOf st = [] := by
  unfold treeSt at h
  unfold treeOf
  cases hk : treeOk st with
  | false => rfl
  | true =>
    rw [hk, if_pos rfl] at h
    unfold treeOk at hk
    rw [h] at hk
    cases hk

end Go.Proofs.Ytkmlnglmecjmeaa


/- What a parameter that can be read as data is: of integers, bools, texts, structs, arrays, and slices of them; what is kept when nothing below has turned. Of no program. No condition but those named. -/
namespace Go.Proofs.Ytkmlnglmecjmeaa
open Go Go.RowKit
set_option linter.unusedVariables false

/-- A way to read cells as data: in a world whose blocks below n are as they were. -/
def Rd (α : Type) := Nat → World → α → List Value → Prop
/-- Whatever of this type can be read is read so. -/
def Opens (P : Program) (t : TypeId) {α : Type} (R : Rd α) : Prop :=
  ∀ {H : Type} (enc : TypeId × Value → H) (w : World) (fuel : Nat) (cs : List Value) (x : DataW H × List MemPlace),
    DataW.trod enc P w 0 (fun _ => true) true fuel t cs = some x → ∃ a : α, R w.heap.size w a cs
/-- It is read so still when nothing below has turned. -/
def Keeps {α : Type} (R : Rd α) : Prop := ∀ (n m : Nat) (w w' : World) (a : α) (cs : List Value), R n w a cs → Below n w w' → n ≤ m → R m w' a cs

def IsInt (k : IntKind) : Rd Int := fun _ _ n cs => cs = [.int k n] ∧ (Lit.int k n).wf = true
def IsBool : Rd Bool := fun _ _ b cs => cs = [.bool b]
def IsStr : Rd (List UInt8) := fun _ _ l cs => cs = [.string (tx l)] ∧ l.length ≤ maxLen
theorem keeps_int (k : IntKind) : Keeps (IsInt k) := fun _ _ _ _ _ _ h _ _ => h
theorem keeps_bool : Keeps IsBool := fun _ _ _ _ _ _ h _ _ => h
theorem keeps_str : Keeps IsStr := fun _ _ _ _ _ _ h _ _ => h
theorem opens_int {P : Program} {t : TypeId} {k : IntKind} (ht : P.underlying t = some (.int k)) : Opens P t (IsInt k) := fun enc w fuel cs x h => by
  obtain ⟨n, rfl, _, hw⟩ := DataW.trod_int ht h
  exact ⟨n, rfl, hw⟩
theorem opens_bool {P : Program} {t : TypeId} (ht : P.underlying t = some .bool) : Opens P t IsBool := fun enc w fuel cs x h => by
  obtain ⟨b, rfl, _⟩ := DataW.trod_bool ht h
  exact ⟨b, rfl⟩
theorem opens_str {P : Program} {t : TypeId} (ht : P.underlying t = some .string) : Opens P t IsStr := fun enc w fuel cs x h => by
  obtain ⟨s, rfl, _, hs⟩ := DataW.trod_string ht h
  exact ⟨s.data.toList, by rw [← tx_of], by rwa [← Lib.size_eq]⟩

/-- One behind the other: the first takes s cells. -/
def Both {α β : Type} (s : Nat) (R : Rd α) (S : Rd β) : Rd (α × β) := fun n w x cs => R n w x.1 (cs.take s) ∧ S n w x.2 (cs.drop s)
def Nought : Rd Unit := fun _ _ _ cs => cs = []
theorem keeps_both {α β : Type} {s : Nat} {R : Rd α} {S : Rd β} (hR : Keeps R) (hS : Keeps S) : Keeps (Both s R S) := fun n m w w' a cs h hb hm => ⟨hR n m w w' _ _ h.1 hb hm, hS n m w w' _ _ h.2 hb hm⟩
theorem keeps_nought : Keeps Nought := fun _ _ _ _ _ _ h _ _ => h
/-- The fields from this offset on. -/
def OpensF (P : Program) (fs : List Field) (off len : Nat) {α : Type} (R : Rd α) : Prop :=
  ∀ {H : Type} (enc : TypeId × Value → H) (w : World) (fuel : Nat) (cs : List Value), cs.length = len →
    (∀ f ∈ fs, ∃ y : DataW H × List MemPlace, DataW.trod enc P w 0 (fun _ => true) true fuel f.type ((cs.drop f.offset).take (P.cellsOf f.type)) = some y) → ∃ a : α, R w.heap.size w a (cs.drop off)
theorem opensF_nil {P : Program} (len : Nat) : OpensF P [] len len Nought := fun enc w fuel cs hl _ => ⟨(), by rw [List.drop_of_length_le (by omega)]; rfl⟩
theorem opensF_cons {P : Program} {f : Field} {fs : List Field} {off len s : Nat} {α β : Type} {R : Rd α} {S : Rd β} (ho : f.offset = off) (hs : P.cellsOf f.type = s) (h1 : Opens P f.type R) (h2 : OpensF P fs (off + s) len S) :
    OpensF P (f :: fs) off len (Both s R S) := fun enc w fuel cs hl hf => by
  obtain ⟨y, hy⟩ := hf f (by simp)
  obtain ⟨a, ha⟩ := h1 enc w fuel _ y hy
  obtain ⟨b, hb⟩ := h2 enc w fuel cs hl (fun g hg => hf g (by simp [hg]))
  rw [ho, hs] at ha
  refine ⟨(a, b), ha, ?_⟩
  show S _ _ b ((cs.drop off).drop s)
  rw [List.drop_drop]
  exact hb
theorem opens_struct {P : Program} {t : TypeId} {fs : Array Field} {len : Nat} {α : Type} {R : Rd α} (ht : P.underlying t = some (.struct fs)) (hl : P.cellsOf t = len) (h : OpensF P fs.toList 0 len R) : Opens P t R := fun enc w fuel cs x hx => by
  obtain ⟨xs, n, _, _, hlen, hsz, hf⟩ := DataW.trod_struct ht hx
  obtain ⟨a, ha⟩ := h enc w n cs (by rw [hlen, hl]) (fun f hm => by
    obtain ⟨i, hi⟩ := List.getElem?_of_mem hm
    have hlt : i < xs.length := by
      have := (List.getElem?_eq_some_iff.1 hi).1
      simp at this
      omega
    have e := hf i f (by simpa using hi)
    exact ⟨xs[i], by rw [e, List.getElem?_eq_getElem hlt]⟩)
  exact ⟨a, ha⟩

/-- So many, one behind the other, each of s cells. -/
def Arr {α : Type} (k s : Nat) (R : Rd α) : Rd (List α) := fun n w xs cs => xs.length = k ∧ cs.length = k * s ∧ ∀ i, (h : i < xs.length) → R n w xs[i] ((cs.drop (i * s)).take s)
theorem keeps_arr {α : Type} {k s : Nat} {R : Rd α} (hR : Keeps R) : Keeps (Arr k s R) := fun n m w w' a cs h hb hm => ⟨h.1, h.2.1, fun i hi => hR n m w w' _ _ (h.2.2 i hi) hb hm⟩
theorem list_of {α : Type} (k : Nat) (p : Nat → α → Prop) (h : ∀ i, i < k → ∃ a, p i a) : ∃ xs : List α, xs.length = k ∧ ∀ i, (hi : i < xs.length) → p i xs[i] := by
  induction k with
  | zero => exact ⟨[], rfl, fun i hi => absurd hi (by simp)⟩
  | succ k ih =>
    obtain ⟨xs, hl, hx⟩ := ih fun i hi => h i (by omega)
    obtain ⟨a, ha⟩ := h k (by omega)
    refine ⟨xs ++ [a], by simp [hl], fun i hi => ?_⟩
    by_cases e : i < xs.length
    · rw [List.getElem_append_left e]; exact hx i e
    · have e2 : i = xs.length := by simp at hi; omega
      subst e2
      simp only [List.getElem_concat_length]
      rw [hl]
      exact ha
theorem mapM_some {α β : Type} (f : α → Option β) : ∀ (l : List α) (ys : List β), l.mapM f = some ys → ∀ i, (h : i < l.length) → ∃ y, f l[i] = some y
  | [], _, _, i, h => absurd h (by simp)
  | a :: l, ys, e, i, h => by
    rw [List.mapM_cons] at e
    simp only [bind, Option.bind_eq_some_iff, pure] at e
    obtain ⟨y, hy, zs, hz, _⟩ := e
    cases i with
    | zero => exact ⟨y, hy⟩
    | succ i => exact mapM_some f l zs hz i (by simpa using h)
theorem trod_array {H : Type} {enc : TypeId × Value → H} {P : Program} {w : World} {base : Nat} {sp : Nat → Bool} {held : Bool} {t e : TypeId} {k fuel : Nat} {cs : List Value} {x : DataW H × List MemPlace} (ht : P.underlying t = some (.array k e)) (h : DataW.trod enc P w base sp held fuel t cs = some x) :
    ∃ n, cs.length = P.cellsOf t ∧ ∀ i, i < k → ∃ y, DataW.trod enc P w base sp held n e ((cs.drop (i * P.cellsOf e)).take (P.cellsOf e)) = some y := by
  cases fuel with
  | zero => simp [DataW.trod] at h
  | succ n =>
    unfold DataW.trod at h
    rw [ht] at h
    by_cases hl : cs.length = P.cellsOf t
    · refine ⟨n, hl, fun i hi => ?_⟩
      simp only [hl, if_true, Option.map_eq_some_iff] at h
      obtain ⟨xs, hx, _⟩ := h
      obtain ⟨y, hy⟩ := mapM_some _ _ _ hx i (by simpa using hi)
      exact ⟨y, by simpa using hy⟩
    · simp [hl] at h
theorem opens_arr {P : Program} {t e : TypeId} {k s : Nat} {α : Type} {R : Rd α} (ht : P.underlying t = some (.array k e)) (hs : P.cellsOf e = s) (hl : P.cellsOf t = k * s) (h : Opens P e R) : Opens P t (Arr k s R) := fun enc w fuel cs x hx => by
  obtain ⟨n, hlen, hy⟩ := trod_array ht hx
  obtain ⟨xs, hk, hR⟩ := list_of k (fun i a => R w.heap.size w a ((cs.drop (i * s)).take s)) fun i hi => by
    obtain ⟨y, hy⟩ := hy i hi
    rw [hs] at hy
    exact h enc w n _ y hy
  exact ⟨xs, hk, by rw [hlen, hl], hR⟩

/-- A slice whose elements are of s cells each, in blocks below n. -/
def SliceOf {α : Type} (s : Nat) (R : Rd α) : Rd (List α) := fun n w xs cs =>
  ∃ A cap, cs = [.slice A xs.length cap] ∧ xs.length ≤ cap ∧ cap ≤ maxLen ∧ (A = none → cap = 0) ∧
    (0 < xs.length → ∃ b off, A = some ⟨b, off, none⟩ ∧ b < n ∧ ∀ i, (h : i < xs.length) → ∃ es : List Value, es.length = s ∧ (∀ j, j < s → w.cell? ⟨b, off + i * s + j, none⟩ = es[j]?) ∧ R n w xs[i] es)
theorem keeps_slice {α : Type} {s : Nat} {R : Rd α} (hR : Keeps R) : Keeps (SliceOf s R) := fun n m w w' xs cs h hb hm => by
  obtain ⟨A, cap, e, h1, h2, h3, h4⟩ := h
  refine ⟨A, cap, e, h1, h2, h3, fun hp => ?_⟩
  obtain ⟨b, off, hA, hbn, hc⟩ := h4 hp
  refine ⟨b, off, hA, by omega, fun i hi => ?_⟩
  obtain ⟨es, hl, hcell, hr⟩ := hc i hi
  exact ⟨es, hl, fun j hj => (hb.cell (p := ⟨b, off + i * s + j, none⟩) hbn).trans (hcell j hj), hR n m w w' _ _ hr hb hm⟩
theorem spot_none {w : World} {a : Addr} {v : Value} (h : w.cell? a = some v) : a.spot = none := by
  unfold World.cell? at h
  split at h
  · cases hs : a.spot with
    | none => rfl
    | some y => simp [hs] at h
  · simp at h
theorem opens_slice {P : Program} {t e : TypeId} {s : Nat} {α : Type} {R : Rd α} (ht : P.underlying t = some (.slice e)) (hs : P.cellsOf e = s) (hp : 0 < s) (h : Opens P e R) : Opens P t (SliceOf s R) := fun enc w fuel cs x hx => by
  rcases DataW.trod_slice ht hx with ⟨rfl, _⟩ | ⟨a, len, cap, elems, rest, n, _, rfl, _, _, hl, hm, hlen, hel, _, _⟩
  · exact ⟨[], none, 0, rfl, Nat.le_refl _, Nat.zero_le _, fun _ => rfl, fun h => absurd h (by simp)⟩
  · rw [hs] at hel
    have each : ∀ i, i < len → ∃ es : List Value, w.cells? 0 (a.add (i * s)) s = some es ∧ ∃ y, DataW.trod enc P w 0 (fun _ => true) true n e es = some y := fun i hi => by
      have := hel i hi
      rw [List.getElem?_eq_getElem (by omega), Option.bind_eq_some_iff] at this
      obtain ⟨es, h1, h2⟩ := this
      exact ⟨es, h1, _, h2⟩
    obtain ⟨xs, hk, hR⟩ := list_of len (fun i v => ∃ es : List Value, w.cells? 0 (a.add (i * s)) s = some es ∧ R w.heap.size w v es) fun i hi => by
      obtain ⟨es, h1, y, h2⟩ := each i hi
      obtain ⟨v, hv⟩ := h enc w n es y h2
      exact ⟨v, es, h1, hv⟩
    subst hk
    refine ⟨xs, some a, cap, rfl, hl, hm, (fun h => by cases h), fun h0 => ?_⟩
    have hcs : ∀ i, (hi : i < xs.length) → ∃ es : List Value, es.length = s ∧ (∀ j, j < s → w.cell? ((a.add (i * s)).add j) = es[j]?) ∧ R w.heap.size w xs[i] es := fun i hi => by
      obtain ⟨es, h1, h2⟩ := hR i hi
      obtain ⟨h3, h4, h5⟩ := World.cells?_some h1
      exact ⟨es, h4, h5, h2⟩
    have hsp : a.spot = none := by
      obtain ⟨es, hl0, hc0, _⟩ := hcs 0 h0
      have := hc0 0 hp
      rw [List.getElem?_eq_getElem (by omega)] at this
      simp [Addr.add] at this
      exact spot_none this
    obtain ⟨b, off, spot⟩ := a
    simp only at hsp
    subst hsp
    have hadd : ∀ i j : Nat, ((⟨b, off, none⟩ : Addr).add (i * s)).add j = ⟨b, off + i * s + j, none⟩ := fun i j => by
      unfold Addr.add
      by_cases h1 : i * s = 0 <;> by_cases h2 : j = 0 <;> simp [h1, h2]
    refine ⟨b, off, rfl, ?_, fun i hi => ?_⟩
    · obtain ⟨es, hl0, hc0, _⟩ := hcs 0 h0
      have := hc0 0 hp
      rw [hadd, List.getElem?_eq_getElem (by omega)] at this
      exact World.block_lt_of_cell? w _ this
    · obtain ⟨es, h1, h2, h3⟩ := hcs i hi
      exact ⟨es, h1, fun j hj => by rw [← hadd]; exact h2 j hj, h3⟩

/-- Two integers. -/
theorem two_ints {k : IntKind} {n : Nat} {w : World} {xs : List Int} {cs : List Value} (h : Arr 2 1 (IsInt k) n w xs cs) : ∃ a b : Int, xs = [a, b] ∧ cs = [.int k a, .int k b] ∧ (Lit.int k a).wf = true ∧ (Lit.int k b).wf = true := by
  obtain ⟨h1, h2, h3⟩ := h
  match xs, h1, cs, h2 with
  | [a, b], _, [u, v], _ =>
    have e0 := h3 0 (by simp)
    have e1 := h3 1 (by simp)
    simp [IsInt] at e0 e1
    exact ⟨a, b, rfl, by rw [e0.1, e1.1], e0.2, e1.2⟩

end Go.Proofs.Ytkmlnglmecjmeaa


/- Whether a member is among others; lodge/member's, slices.Contains's and Index's, and the document's. Condition: the slice reads as members. -/
namespace Go.Proofs.Ytkmlnglmecjmeaa
open Go.RowKit
set_option linter.unusedVariables false

/-- Cells are a member. -/
def IsM : Rd (Int × Int) := fun _ _ m cs => cs = [.int .i64 m.1, .int .i64 m.2]
theorem keeps_M : Keeps IsM := fun _ _ _ _ _ _ h _ _ => h
theorem opens_M : Opens Try.prog 27 IsM := fun enc w fuel cs x h => by
  obtain ⟨⟨a, b, c⟩, ha, hb, hc⟩ := opens_struct (R := Both 1 (IsInt .i64) (Both 1 (IsInt .i64) Nought)) Try.underlying27 (by kernel_rfl) (opensF_cons rfl (by kernel_rfl) (opens_int Try.underlying3) (opensF_cons rfl (by kernel_rfl) (opens_int Try.underlying3) (opensF_nil 2))) enc w fuel cs x h
  refine ⟨(a, b), ?_⟩
  match cs, ha, hb, hc with
  | [u, v], ha, hb, hc => 
    simp [IsInt] at ha hb
    show _ = _
    rw [ha.1, hb.1]
/-- Cells are a view's id. -/
def IsV : Rd (Int × Int × Int) := fun _ _ m cs => cs = [.int .i64 m.1, .int .i64 m.2.1, .int .i64 m.2.2]
theorem keeps_V : Keeps IsV := fun _ _ _ _ _ _ h _ _ => h
theorem opens_V : Opens Try.prog 30 IsV := fun enc w fuel cs x h => by
  obtain ⟨⟨a, b, c, d⟩, ha, hb, hc, hd⟩ := opens_struct (R := Both 1 (IsInt .i64) (Both 1 (IsInt .i64) (Both 1 (IsInt .i64) Nought))) Try.underlying30 (by kernel_rfl) (opensF_cons rfl (by kernel_rfl) (opens_int Try.underlying3) (opensF_cons rfl (by kernel_rfl) (opens_int Try.underlying3) (opensF_cons rfl (by kernel_rfl) (opens_int Try.underlying3) (opensF_nil 3)))) enc w fuel cs x h
  refine ⟨(a, b, c), ?_⟩
  match cs, ha, hb, hc, hd with
  | [u, v, t], ha, hb, hc, hd =>
    simp [IsInt] at ha hb hc
    show _ = _
    rw [ha.1, hb.1, hc.1]
/-- A slice of members. -/
abbrev Mems : Rd (List (Int × Int)) := SliceOf 2 IsM
theorem keeps_mems : Keeps Mems := keeps_slice keeps_M
theorem opens_mems : Opens Try.prog 22 Mems := opens_slice Try.underlying22 (by kernel_rfl) (by decide) opens_M
theorem mems_at {n : Nat} {w : World} {xs : List (Int × Int)} {v : Value} (h : Mems n w xs [v]) :
    ∃ A cap, v = .slice A xs.length cap ∧ xs.length ≤ cap ∧ cap ≤ maxLen ∧ ∀ i, (hi : i < xs.length) → ∃ b off, A = some ⟨b, off, none⟩ ∧ b < n ∧ w.cell? ⟨b, off + i * 2, none⟩ = some (.int .i64 xs[i].1) ∧ w.cell? ⟨b, off + i * 2 + 1, none⟩ = some (.int .i64 xs[i].2) := by
  obtain ⟨A, cap, e, h1, h2, _, h3⟩ := h
  simp only [List.cons.injEq, and_true] at e
  refine ⟨A, cap, e, h1, h2, fun i hi => ?_⟩
  obtain ⟨b, off, rfl, hb, hc⟩ := h3 (by omega)
  obtain ⟨es, hl, hcell, hr⟩ := hc i hi
  have hr : es = _ := hr
  subst hr
  exact ⟨b, off, rfl, hb, hcell 0 (by omega), hcell 1 (by omega)⟩

set_option maxRecDepth 100000 in
set_option maxHeartbeats 4000000 in
theorem indexM_any (v : Value) (xs : List (Int × Int)) (a b : Int) (w : World) (h : Mems w.heap.size w xs [v]) :
    Calls Try.prog 42 #[v, vM a b] w fun e W' => (∃ r : Int, e = .returned (.int .i64 r) ∧ ((r = -1 ∧ (a, b) ∉ xs) ∨ ∃ i : Nat, r = i ∧ xs[i]? = some (a, b))) ∧ Below w.heap.size w W' := by
  obtain ⟨A, cap, rfl, hlc, hcm, hp⟩ := mems_at h
  have HP := Lib.hid hp
  have hcm2 : cap ≤ 9223372036854775807 := Nat.le_trans hcm (by decide)
  clear hp h hcm
  go_enter Try.func42, Try.ntmps42
  go_wp2_with fail
  obtain ⟨W0, hW0, hR, B⟩ : ∃ W0, w.alloc (.cells #[.int .i64 a, .int .i64 b] 27) = W0 ∧ Box W0 w.heap.size [.int .i64 a, .int .i64 b] ∧ Below w.heap.size w W0 := ⟨_, rfl, Box.new w _ _, below_new _ _⟩
  rw [hW0]
  clear hW0
  go_loopw [8] (fun i wr => ∃ k : Nat, k ≤ xs.length ∧ i = .int .i64 k ∧ (∀ j : Nat, j < k → xs[j]? ≠ some (a, b)) ∧ Box wr w.heap.size [.int .i64 a, .int .i64 b] ∧ Below w.heap.size w wr)
    (fun i _ => xs.length - (intOf i).toNat)
  case atStart => exact ⟨0, Nat.zero_le _, rfl, (fun j hj => absurd hj (by omega)), hR, B⟩
  case round =>
    obtain ⟨k, hk, rfl, hno, hR, B⟩ := hrel
    have c0 := hR.c 0 _ rfl
    have c1 := hR.c 1 _ rfl
    by_cases hlt : k < xs.length
    · have hd : decide (k < xs.length) = true := by simpa using hlt
      have hi : (k : Int) < (xs.length : Int) := by omega
      obtain ⟨g, off, rfl, hbn, hc0, hc1⟩ := HP.out k hlt
      have hk0 := (B.cell (p := ⟨g, off + k * 2, none⟩) hbn).trans hc0
      have hk1 := (B.cell (p := ⟨g, off + k * 2 + 1, none⟩) hbn).trans hc1
      have hne : g ≠ w.heap.size := by omega
      have hge : (0 : Int) ≤ (k : Int) := by omega
      obtain ⟨⟨x, y⟩, hx⟩ : ∃ p : Int × Int, xs[k] = p := ⟨_, rfl⟩
      rw [hx] at hk0 hk1
      by_cases h1 : a = x
      · subst h1
        by_cases h2 : b = y
        · subst h2
          go_wp2_with fail
          go_quiet (fail)
          go_wp2
          go_ret
          exact ⟨⟨_, rfl, Or.inr ⟨k, rfl, by rw [List.getElem?_eq_getElem hlt, hx]⟩⟩, B.trans ⟨rfl, rfl, rfl, Nat.le_refl _, fun _ _ => rfl⟩⟩
        · go_wp2_with fail
          go_quiet (fail)
          go_wp2
          go_roundw
          case rel => exact ⟨k + 1, by omega, by go_num, (fun j hj => by
            by_cases e : j = k
            · subst e
              rw [List.getElem?_eq_getElem hlt, hx]
              simp; intro e; exact h2 e.symm
            · exact hno j (by omega)), hR.keep rfl, B.trans ⟨rfl, rfl, rfl, Nat.le_refl _, fun _ _ => rfl⟩⟩
          case measure => simp [intOf]; omega
      · go_wp2_with fail
        go_quiet (fail)
        go_wp2
        go_roundw
        case rel => exact ⟨k + 1, by omega, by go_num, (fun j hj => by
          by_cases e : j = k
          · subst e
            rw [List.getElem?_eq_getElem hlt, hx]
            simp; intro e; exact absurd e.symm h1
          · exact hno j (by omega)), hR.keep rfl, B.trans ⟨rfl, rfl, rfl, Nat.le_refl _, fun _ _ => rfl⟩⟩
        case measure => simp [intOf]; omega
    · have hd : decide (k < xs.length) = false := by simpa using hlt
      go_wp2
      go_ret
      exact ⟨⟨_, rfl, Or.inl ⟨rfl, fun hm => by
        obtain ⟨j, hj⟩ := List.getElem?_of_mem hm
        have := (List.getElem?_eq_some_iff.1 hj).1
        exact hno j (by omega) hj⟩⟩, B⟩

set_option maxRecDepth 100000 in
theorem containsM_any (v : Value) (xs : List (Int × Int)) (a b : Int) (w : World) (h : Mems w.heap.size w xs [v]) :
    Calls Try.prog 33 #[v, vM a b] w fun e W' => e = .returned (.bool (decide ((a, b) ∈ xs))) ∧ Below w.heap.size w W' := by
  go_enter Try.func33, Try.ntmps33
  go_wp2_with fail
  have B := below_new w (.cells #[.int .i64 a, .int .i64 b] 27)
  have h2 := keeps_mems _ _ _ _ _ _ h B B.size
  generalize w.alloc (.cells #[.int .i64 a, .int .i64 b] 27) = W0 at *
  refine (indexM_any v xs a b W0 h2).mono ?_
  rintro e W1 ⟨⟨r, rfl, hr⟩, hb⟩
  have hd : decide (0 ≤ r) = decide ((a, b) ∈ xs) := by
    rcases hr with ⟨rfl, hn⟩ | ⟨i, rfl, hi⟩
    · simp [hn]
    · have := List.mem_of_getElem? hi
      simp [this]
  have HD := Lib.hid hd
  clear hd hr
  go_wp2
  go_ret
  exact ⟨rbool HD.out, B.trans (hb.mono B.size)⟩
set_option maxRecDepth 100000 in
theorem has_any (v : Value) (xs : List (Int × Int)) (a b : Int) (w : World) (h : Mems w.heap.size w xs [v]) :
    Calls Try.prog 21 #[v, vM a b] w fun e W' => e = .returned (.bool (decide ((a, b) ∈ xs))) ∧ Below w.heap.size w W' := by
  go_enter Try.func21, Try.ntmps21
  go_wp2_with fail
  have B := below_new w (.cells #[.int .i64 a, .int .i64 b] 27)
  have h2 := keeps_mems _ _ _ _ _ _ h B B.size
  generalize w.alloc (.cells #[.int .i64 a, .int .i64 b] 27) = W0 at *
  refine (containsM_any v xs a b W0 h2).mono ?_
  rintro e W1 ⟨rfl, hb⟩
  go_wp2
  go_ret
  exact ⟨rfl, B.trans (hb.mono B.size)⟩
set_option maxRecDepth 100000 in
set_option maxHeartbeats 4000000 in
theorem refHas_any (v : Value) (xs : List (Int × Int)) (a b : Int) (w : World) (h : Mems w.heap.size w xs [v]) :
    Calls Try.prog 7 #[v, vM a b] w fun e W' => e = .returned (.bool (decide ((a, b) ∈ xs))) ∧ Below w.heap.size w W' := by
  obtain ⟨A, cap, rfl, hlc, hcm, hp⟩ := mems_at h
  have HP := Lib.hid hp
  have hcm2 : cap ≤ 9223372036854775807 := Nat.le_trans hcm (by decide)
  clear hp h hcm
  go_enter Try.func7, Try.ntmps7
  go_wp2_with fail
  obtain ⟨W0, hW0, hR, B⟩ : ∃ W0, w.alloc (.cells #[.int .i64 a, .int .i64 b] 27) = W0 ∧ Box W0 w.heap.size [.int .i64 a, .int .i64 b] ∧ Below w.heap.size w W0 := ⟨_, rfl, Box.new w _ _, below_new _ _⟩
  rw [hW0]
  clear hW0
  go_loopw [5] (fun i wr => ∃ k : Nat, k ≤ xs.length ∧ i = .int .i64 k ∧ (∀ j : Nat, j < k → xs[j]? ≠ some (a, b)) ∧ Box wr w.heap.size [.int .i64 a, .int .i64 b] ∧ Below w.heap.size w wr)
    (fun i _ => xs.length - (intOf i).toNat)
  case atStart => exact ⟨0, Nat.zero_le _, rfl, (fun j hj => absurd hj (by omega)), hR, B⟩
  case round =>
    obtain ⟨k, hk, rfl, hno, hR, B⟩ := hrel
    have c0 := hR.c 0 _ rfl
    have c1 := hR.c 1 _ rfl
    by_cases hlt : k < xs.length
    · have hd : decide (k < xs.length) = true := by simpa using hlt
      have hi : (k : Int) < (xs.length : Int) := by omega
      obtain ⟨g, off, rfl, hbn, hc0, hc1⟩ := HP.out k hlt
      have hk0 := (B.cell (p := ⟨g, off + k * 2, none⟩) hbn).trans hc0
      have hk1 := (B.cell (p := ⟨g, off + k * 2 + 1, none⟩) hbn).trans hc1
      have hne : g ≠ w.heap.size := by omega
      have hge : (0 : Int) ≤ (k : Int) := by omega
      obtain ⟨⟨x, y⟩, hx⟩ : ∃ p : Int × Int, xs[k] = p := ⟨_, rfl⟩
      rw [hx] at hk0 hk1
      by_cases h1 : a = x
      · subst h1
        by_cases h2 : b = y
        · subst h2
          go_wp2_with fail
          go_quiet (fail)
          go_wp2
          go_ret
          have hm : (a, b) ∈ xs := hx ▸ List.getElem_mem hlt
          exact ⟨rbool (by simp [hm]), B.trans ⟨rfl, rfl, rfl, Nat.le_refl _, fun _ _ => rfl⟩⟩
        · go_wp2_with fail
          go_quiet (fail)
          go_wp2
          go_roundw
          case rel => exact ⟨k + 1, by omega, by go_num, (fun j hj => by
            by_cases e : j = k
            · subst e
              rw [List.getElem?_eq_getElem hlt, hx]
              simp; intro e; exact h2 e.symm
            · exact hno j (by omega)), hR.keep rfl, B.trans ⟨rfl, rfl, rfl, Nat.le_refl _, fun _ _ => rfl⟩⟩
          case measure => simp [intOf]; omega
      · go_wp2_with fail
        go_quiet (fail)
        go_wp2
        go_roundw
        case rel => exact ⟨k + 1, by omega, by go_num, (fun j hj => by
          by_cases e : j = k
          · subst e
            rw [List.getElem?_eq_getElem hlt, hx]
            simp; intro e; exact absurd e.symm h1
          · exact hno j (by omega)), hR.keep rfl, B.trans ⟨rfl, rfl, rfl, Nat.le_refl _, fun _ _ => rfl⟩⟩
        case measure => simp [intOf]; omega
    · have hd : decide (k < xs.length) = false := by simpa using hlt
      go_wp2
      go_ret
      have hm : (a, b) ∉ xs := fun hm => by
        obtain ⟨j, hj⟩ := List.getElem?_of_mem hm
        have := (List.getElem?_eq_some_iff.1 hj).1
        exact hno j (by omega) hj
      exact ⟨rbool (by simp [hm]), B⟩

end Go.Proofs.Ytkmlnglmecjmeaa
