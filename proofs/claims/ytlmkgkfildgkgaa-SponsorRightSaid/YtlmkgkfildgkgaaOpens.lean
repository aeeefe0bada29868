import Derived.ChangeArms
import Derived.DataReads
import Derived.Below
import Derived.WideShapes
import Derived.Test.YtlmkgkfildgkgaaTxt
/- What a parameter that can be read as data is: of integers, bools, texts, structs, arrays, and slices of them; what is kept when nothing below has turned. Of no program. No condition but those named. -/
namespace Go.Proofs.Ytlmkgkfildgkgaa
open Go Go.RowKit
set_option linter.unusedVariables false

/-- A way to read cells as data: in a world whose blocks below n are as they were. -/
def Rd (α : Type) := Nat → World → α → List Value → Prop
/-- Whatever of this type can be read is read so. -/
def Opens (P : Program) (t : TypeId) {α : Type} (R : Rd α) : Prop :=
  ∀ {H : Type} (enc : TypeId × Value → H) (w : World) (fuel : Nat) (cs : List Value) (x : DataW H × List MemPlace),
    DataW.trod enc P w 0 (fun _ => true) true fuel t cs = some x → ∃ a : α, R w.heap.size w a cs
/-- It is read so still when nothing below has turned. -/
def Keeps {α : Type} (R : Rd α) : Prop := ∀ (n m : Nat) (w w' : World) (a : α) (cs : List Value), R n w a cs → Below n w w' → n ≤ m → R m w' a cs

def IsInt (k : IntKind) : Rd Int := fun _ _ n cs => cs = [.int k n] ∧ (Lit.int k n).wf = true
def IsBool : Rd Bool := fun _ _ b cs => cs = [.bool b]
def IsStr : Rd (List UInt8) := fun _ _ l cs => cs = [.string (tx l)] ∧ l.length ≤ maxLen
theorem keeps_int (k : IntKind) : Keeps (IsInt k) := fun _ _ _ _ _ _ h _ _ => h
theorem keeps_bool : Keeps IsBool := fun _ _ _ _ _ _ h _ _ => h
theorem keeps_str : Keeps IsStr := fun _ _ _ _ _ _ h _ _ => h
theorem opens_int {P : Program} {t : TypeId} {k : IntKind} (ht : P.underlying t = some (.int k)) : Opens P t (IsInt k) := fun enc w fuel cs x h => by
  obtain ⟨n, rfl, _, hw⟩ := DataW.trod_int ht h
  exact ⟨n, rfl, hw⟩
theorem opens_bool {P : Program} {t : TypeId} (ht : P.underlying t = some .bool) : Opens P t IsBool := fun enc w fuel cs x h => by
  obtain ⟨b, rfl, _⟩ := DataW.trod_bool ht h
  exact ⟨b, rfl⟩
theorem opens_str {P : Program} {t : TypeId} (ht : P.underlying t = some .string) : Opens P t IsStr := fun enc w fuel cs x h => by
  obtain ⟨s, rfl, _, hs⟩ := DataW.trod_string ht h
  exact ⟨s.data.toList, by rw [← tx_of], by rwa [← Lib.size_eq]⟩

/-- One behind the other: the first takes s cells. -/
def Both {α β : Type} (s : Nat) (R : Rd α) (S : Rd β) : Rd (α × β) := fun n w x cs => R n w x.1 (cs.take s) ∧ S n w x.2 (cs.drop s)
def Nought : Rd Unit := fun _ _ _ cs => cs = []
theorem keeps_both {α β : Type} {s : Nat} {R : Rd α} {S : Rd β} (hR : Keeps R) (hS : Keeps S) : Keeps (Both s R S) := fun n m w w' a cs h hb hm => ⟨hR n m w w' _ _ h.1 hb hm, hS n m w w' _ _ h.2 hb hm⟩
theorem keeps_nought : Keeps Nought := fun _ _ _ _ _ _ h _ _ => h
/-- The fields from this offset on. -/
def OpensF (P : Program) (fs : List Field) (off len : Nat) {α : Type} (R : Rd α) : Prop :=
  ∀ {H : Type} (enc : TypeId × Value → H) (w : World) (fuel : Nat) (cs : List Value), cs.length = len →
    (∀ f ∈ fs, ∃ y : DataW H × List MemPlace, DataW.trod enc P w 0 (fun _ => true) true fuel f.type ((cs.drop f.offset).take (P.cellsOf f.type)) = some y) → ∃ a : α, R w.heap.size w a (cs.drop off)
theorem opensF_nil {P : Program} (len : Nat) : OpensF P [] len len Nought := fun enc w fuel cs hl _ => ⟨(), by rw [List.drop_of_length_le (by omega)]; rfl⟩
theorem opensF_cons {P : Program} {f : Field} {fs : List Field} {off len s : Nat} {α β : Type} {R : Rd α} {S : Rd β} (ho : f.offset = off) (hs : P.cellsOf f.type = s) (h1 : Opens P f.type R) (h2 : OpensF P fs (off + s) len S) :
    OpensF P (f :: fs) off len (Both s R S) := fun enc w fuel cs hl hf => by
  obtain ⟨y, hy⟩ := hf f (by simp)
  obtain ⟨a, ha⟩ := h1 enc w fuel _ y hy
  obtain ⟨b, hb⟩ := h2 enc w fuel cs hl (fun g hg => hf g (by simp [hg]))
  rw [ho, hs] at ha
  refine ⟨(a, b), ha, ?_⟩
  show S _ _ b ((cs.drop off).drop s)
  rw [List.drop_drop]
  exact hb
theorem opens_struct {P : Program} {t : TypeId} {fs : Array Field} {len : Nat} {α : Type} {R : Rd α} (ht : P.underlying t = some (.struct fs)) (hl : P.cellsOf t = len) (h : OpensF P fs.toList 0 len R) : Opens P t R := fun enc w fuel cs x hx => by
  obtain ⟨xs, n, _, _, hlen, hsz, hf⟩ := DataW.trod_struct ht hx
  obtain ⟨a, ha⟩ := h enc w n cs (by rw [hlen, hl]) (fun f hm => by
    obtain ⟨i, hi⟩ := List.getElem?_of_mem hm
    have hlt : i < xs.length := by
      have := (List.getElem?_eq_some_iff.1 hi).1
      simp at this
      omega
    have e := hf i f (by simpa using hi)
    exact ⟨xs[i], by rw [e, List.getElem?_eq_getElem hlt]⟩)
  exact ⟨a, ha⟩

/-- So many, one behind the other, each of s cells. -/
def Arr {α : Type} (k s : Nat) (R : Rd α) : Rd (List α) := fun n w xs cs => xs.length = k ∧ cs.length = k * s ∧ ∀ i, (h : i < xs.length) → R n w xs[i] ((cs.drop (i * s)).take s)
theorem keeps_arr {α : Type} {k s : Nat} {R : Rd α} (hR : Keeps R) : Keeps (Arr k s R) := fun n m w w' a cs h hb hm => ⟨h.1, h.2.1, fun i hi => hR n m w w' _ _ (h.2.2 i hi) hb hm⟩
theorem list_of {α : Type} (k : Nat) (p : Nat → α → Prop) (h : ∀ i, i < k → ∃ a, p i a) : ∃ xs : List α, xs.length = k ∧ ∀ i, (hi : i < xs.length) → p i xs[i] := by
  induction k with
  | zero => exact ⟨[], rfl, fun i hi => absurd hi (by simp)⟩
  | succ k ih =>
    obtain ⟨xs, hl, hx⟩ := ih fun i hi => h i (by omega)
    obtain ⟨a, ha⟩ := h k (by omega)
    refine ⟨xs ++ [a], by simp [hl], fun i hi => ?_⟩
    by_cases e : i < xs.length
    · rw [List.getElem_append_left e]; exact hx i e
    · have e2 : i = xs.length := by simp at hi; omega
      subst e2
      simp only [List.getElem_concat_length]
      rw [hl]
      exact ha
theorem mapM_some {α β : Type} (f : α → Option β) : ∀ (l : List α) (ys : List β), l.mapM f = some ys → ∀ i, (h : i < l.length) → ∃ y, f l[i] = some y
  | [], _, _, i, h => absurd h (by simp)
  | a :: l, ys, e, i, h => by
    rw [List.mapM_cons] at e
    simp only [bind, Option.bind_eq_some_iff, pure] at e
    obtain ⟨y, hy, zs, hz, _⟩ := e
    cases i with
    | zero => exact ⟨y, hy⟩
    | succ i => exact mapM_some f l zs hz i (by simpa using h)
theorem trod_array {H : Type} {enc : TypeId × Value → H} {P : Program} {w : World} {base : Nat} {sp : Nat → Bool} {held : Bool} {t e : TypeId} {k fuel : Nat} {cs : List Value} {x : DataW H × List MemPlace} (ht : P.underlying t = some (.array k e)) (h : DataW.trod enc P w base sp held fuel t cs = some x) :
    ∃ n, cs.length = P.cellsOf t ∧ ∀ i, i < k → ∃ y, DataW.trod enc P w base sp held n e ((cs.drop (i * P.cellsOf e)).take (P.cellsOf e)) = some y := by
  cases fuel with
  | zero => simp [DataW.trod] at h
  | succ n =>
    unfold DataW.trod at h
    rw [ht] at h
    by_cases hl : cs.length = P.cellsOf t
    · refine ⟨n, hl, fun i hi => ?_⟩
      simp only [hl, if_true, Option.map_eq_some_iff] at h
      obtain ⟨xs, hx, _⟩ := h
      obtain ⟨y, hy⟩ := mapM_some _ _ _ hx i (by simpa using hi)
      exact ⟨y, by simpa using hy⟩
    · simp [hl] at h
theorem opens_arr {P : Program} {t e : TypeId} {k s : Nat} {α : Type} {R : Rd α} (ht : P.underlying t = some (.array k e)) (hs : P.cellsOf e = s) (hl : P.cellsOf t = k * s) (h : Opens P e R) : Opens P t (Arr k s R) := fun enc w fuel cs x hx => by
  obtain ⟨n, hlen, hy⟩ := trod_array ht hx
  obtain ⟨xs, hk, hR⟩ := list_of k (fun i a => R w.heap.size w a ((cs.drop (i * s)).take s)) fun i hi => by
    obtain ⟨y, hy⟩ := hy i hi
    rw [hs] at hy
    exact h enc w n _ y hy
  exact ⟨xs, hk, by rw [hlen, hl], hR⟩

/-- A slice whose elements are of s cells each, in blocks below n. -/
def SliceOf {α : Type} (s : Nat) (R : Rd α) : Rd (List α) := fun n w xs cs =>
  ∃ A cap, cs = [.slice A xs.length cap] ∧ xs.length ≤ cap ∧ cap ≤ maxLen ∧ (A = none → cap = 0) ∧
    (0 < xs.length → ∃ b off, A = some ⟨b, off, none⟩ ∧ b < n ∧ ∀ i, (h : i < xs.length) → ∃ es : List Value, es.length = s ∧ (∀ j, j < s → w.cell? ⟨b, off + i * s + j, none⟩ = es[j]?) ∧ R n w xs[i] es)
theorem keeps_slice {α : Type} {s : Nat} {R : Rd α} (hR : Keeps R) : Keeps (SliceOf s R) := fun n m w w' xs cs h hb hm => by
  obtain ⟨A, cap, e, h1, h2, h3, h4⟩ := h
  refine ⟨A, cap, e, h1, h2, h3, fun hp => ?_⟩
  obtain ⟨b, off, hA, hbn, hc⟩ := h4 hp
  refine ⟨b, off, hA, by omega, fun i hi => ?_⟩
  obtain ⟨es, hl, hcell, hr⟩ := hc i hi
  exact ⟨es, hl, fun j hj => (hb.cell (p := ⟨b, off + i * s + j, none⟩) hbn).trans (hcell j hj), hR n m w w' _ _ hr hb hm⟩
theorem spot_none {w : World} {a : Addr} {v : Value} (h : w.cell? a = some v) : a.spot = none := by
  unfold World.cell? at h
  split at h
  · cases hs : a.spot with
    | none => rfl
    | some y => simp [hs] at h
  · simp at h
theorem opens_slice {P : Program} {t e : TypeId} {s : Nat} {α : Type} {R : Rd α} (ht : P.underlying t = some (.slice e)) (hs : P.cellsOf e = s) (hp : 0 < s) (h : Opens P e R) : Opens P t (SliceOf s R) := fun enc w fuel cs x hx => by
  rcases DataW.trod_slice ht hx with ⟨rfl, _⟩ | ⟨a, len, cap, elems, rest, n, _, rfl, _, _, hl, hm, hlen, hel, _, _⟩
  · exact ⟨[], none, 0, rfl, Nat.le_refl _, Nat.zero_le _, fun _ => rfl, fun h => absurd h (by simp)⟩
  · rw [hs] at hel
    have each : ∀ i, i < len → ∃ es : List Value, w.cells? 0 (a.add (i * s)) s = some es ∧ ∃ y, DataW.trod enc P w 0 (fun _ => true) true n e es = some y := fun i hi => by
      have := hel i hi
      rw [List.getElem?_eq_getElem (by omega), Option.bind_eq_some_iff] at this
      obtain ⟨es, h1, h2⟩ := this
      exact ⟨es, h1, _, h2⟩
    obtain ⟨xs, hk, hR⟩ := list_of len (fun i v => ∃ es : List Value, w.cells? 0 (a.add (i * s)) s = some es ∧ R w.heap.size w v es) fun i hi => by
      obtain ⟨es, h1, y, h2⟩ := each i hi
      obtain ⟨v, hv⟩ := h enc w n es y h2
      exact ⟨v, es, h1, hv⟩
    subst hk
    refine ⟨xs, some a, cap, rfl, hl, hm, (fun h => by cases h), fun h0 => ?_⟩
    have hcs : ∀ i, (hi : i < xs.length) → ∃ es : List Value, es.length = s ∧ (∀ j, j < s → w.cell? ((a.add (i * s)).add j) = es[j]?) ∧ R w.heap.size w xs[i] es := fun i hi => by
      obtain ⟨es, h1, h2⟩ := hR i hi
      obtain ⟨h3, h4, h5⟩ := World.cells?_some h1
      exact ⟨es, h4, h5, h2⟩
    have hsp : a.spot = none := by
      obtain ⟨es, hl0, hc0, _⟩ := hcs 0 h0
      have := hc0 0 hp
      rw [List.getElem?_eq_getElem (by omega)] at this
      simp [Addr.add] at this
      exact spot_none this
    obtain ⟨b, off, spot⟩ := a
    simp only at hsp
    subst hsp
    have hadd : ∀ i j : Nat, ((⟨b, off, none⟩ : Addr).add (i * s)).add j = ⟨b, off + i * s + j, none⟩ := fun i j => by
      unfold Addr.add
      by_cases h1 : i * s = 0 <;> by_cases h2 : j = 0 <;> simp [h1, h2]
    refine ⟨b, off, rfl, ?_, fun i hi => ?_⟩
    · obtain ⟨es, hl0, hc0, _⟩ := hcs 0 h0
      have := hc0 0 hp
      rw [hadd, List.getElem?_eq_getElem (by omega)] at this
      exact World.block_lt_of_cell? w _ this
    · obtain ⟨es, h1, h2, h3⟩ := hcs i hi
      exact ⟨es, h1, fun j hj => by rw [← hadd]; exact h2 j hj, h3⟩

/-- Two integers. -/
theorem two_ints {k : IntKind} {n : Nat} {w : World} {xs : List Int} {cs : List Value} (h : Arr 2 1 (IsInt k) n w xs cs) : ∃ a b : Int, xs = [a, b] ∧ cs = [.int k a, .int k b] ∧ (Lit.int k a).wf = true ∧ (Lit.int k b).wf = true := by
  obtain ⟨h1, h2, h3⟩ := h
  match xs, h1, cs, h2 with
  | [a, b], _, [u, v], _ =>
    have e0 := h3 0 (by simp)
    have e1 := h3 1 (by simp)
    simp [IsInt] at e0 e1
    exact ⟨a, b, rfl, by rw [e0.1, e1.1], e0.2, e1.2⟩

end Go.Proofs.Ytlmkgkfildgkgaa
