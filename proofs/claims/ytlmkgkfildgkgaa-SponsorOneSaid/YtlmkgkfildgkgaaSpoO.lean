import Derived.Test.YtlmkgkfildgkgaaSpoN
import Derived.Test.YtlmkgkfildgkgaaMemH
/- Each member's own share of the places below the root, and that they make up all. Plain: of no program. Condition: each member once, at most 60 high. -/
namespace Go.Proofs.Ytlmkgkfildgkgaa
open Go Go.RowKit
set_option linter.unusedVariables false

theorem filter_range {f : Nat → Bool} (h : ∀ j, f (j + 1) = true → f j = true) (n : Nat) : (List.range n).filter f = List.range ((List.range n).filter f).length := by
  have hd : ∀ d j, f (j + d) = true → f j = true := by
    intro d
    induction d with
    | zero => intro j hj; exact hj
    | succ d ih => intro j hj; exact ih j (h _ hj)
  induction n with
  | zero => rfl
  | succ n ih =>
    rw [List.range_succ, List.filter_append]
    by_cases hn : f n = true
    · have e : (List.range n).filter f = List.range n := by
        rw [List.filter_eq_self]
        intro j hj
        have hj := List.mem_range.1 hj
        exact hd (n - j) j (by rw [Nat.add_sub_cancel' (Nat.le_of_lt hj)]; exact hn)
      rw [e]
      simp [hn, List.range_succ]
    · have e : [n].filter f = [] := by simp [hn]
      rw [e, List.append_nil]
      exact ih
def spF (p : List Bool) (j : Nat) : Bool := (p.drop (p.length - j)).all id && decide (j < p.length)
theorem spF_down (p : List Bool) (j : Nat) (h : spF p (j + 1) = true) : spF p j = true := by
  unfold spF at h ⊢
  simp only [Bool.and_eq_true, decide_eq_true_eq] at h ⊢
  refine ⟨?_, by omega⟩
  have e : p.drop (p.length - j) = (p.drop (p.length - (j + 1))).drop 1 := by
    rw [List.drop_drop]
    congr 1
    omega
  rw [e]
  rw [List.all_eq_true] at h ⊢
  exact fun x hx => h.1 x (List.mem_of_mem_drop hx)
theorem speaks_range {t : Tr} {m : Int × Int} {p : List Bool} (h : off t m = some p) (hd : (lv (flat t)).Nodup) (hp : p.length ≤ 60) :
    speaksO (some t) m = (List.range (bt p)).map (fun j => labOf (p.take (p.length - j))) ∧ ∀ j, j < bt p → spF p j = true := by
  have e : (List.range (p.length + 1)).filter (spF p) = List.range (bt p) := by
    rw [filter_range (spF_down p)]
    exact congrArg List.range (bt_count p)
  refine ⟨?_, fun j hj => ?_⟩
  · rw [speaks_filter h hd hp]
    exact congrArg _ e
  · have : j ∈ (List.range (p.length + 1)).filter (spF p) := by rw [e]; exact List.mem_range.2 hj
    exact (List.mem_filter.1 this).2
theorem bt_pos {p : List Bool} (h : p ≠ []) : 0 < bt p := by
  rw [← bt_count]
  refine List.length_pos_of_mem (a := 0) (List.mem_filter.2 ⟨List.mem_range.2 (by omega), ?_⟩)
  cases p with
  | nil => exact absurd rfl h
  | cons b q => simp
theorem off_nil {t : Tr} {m : Int × Int} (h : off t m = some []) : (lv (flat t)).length = 1 := by
  cases t with
  | leaf a b => rfl
  | inner a b l r =>
    simp only [off] at h
    cases hl : off l m with
    | some q => simp [hl] at h
    | none => simp [hl] at h
/-- How many places below the root a member speaks for. -/
def btO : Option Tr → Int × Int → Nat
  | none, _ => 0
  | some t, m => bt (pth t m)
def cntO (ot : Option Tr) (i : Nat) : Nat := (((lv (spo ot)).take i).map (btO ot)).sum
theorem cnt_zero (ot : Option Tr) : cntO ot 0 = 0 := rfl
theorem cnt_succ (ot : Option Tr) (i : Nat) (h : i < (lv (spo ot)).length) : cntO ot (i + 1) = cntO ot i + btO ot (lv (spo ot))[i] := by
  unfold cntO
  rw [List.take_succ_eq_append_getElem h, List.map_append, List.sum_append]
  simp
theorem cnt_all {ot : Option Tr} (hd : (lv (spo ot)).Nodup) {i : Nat} (h : (lv (spo ot)).length ≤ i) : cntO ot i = (spo ot).length - 1 := by
  unfold cntO
  rw [List.take_of_length_le h]
  cases ot with
  | none => rfl
  | some t =>
    have := sum_bt t hd
    show ((lv (flat t)).map fun m => bt (pth t m)).sum = (flat t).length - 1
    omega
theorem cnt_le {ot : Option Tr} (hd : (lv (spo ot)).Nodup) (i : Nat) : cntO ot i ≤ (spo ot).length := by
  have h1 := cnt_all hd (i := max i (lv (spo ot)).length) (by omega)
  have h2 : cntO ot i ≤ cntO ot (max i (lv (spo ot)).length) := by
    unfold cntO
    have e : (lv (spo ot)).take (max i (lv (spo ot)).length) = (lv (spo ot)).take i ++ ((lv (spo ot)).take (max i (lv (spo ot)).length)).drop i := by
      conv => lhs; rw [← List.take_append_drop i ((lv (spo ot)).take (max i (lv (spo ot)).length))]
      rw [List.take_take, Nat.min_eq_left (by omega)]
    rw [e, List.map_append, List.sum_append]
    omega
  omega
theorem one_facts {ot : Option Tr} {m : Int × Int} (hd : (lv (spo ot)).Nodup) (hh : htO ot ≤ 60) (hm : m ∈ lv (spo ot)) :
    ∃ (n : Nat) (x : Int), n ≤ 60 ∧ ofO ot m = (((n : Int), x), true) ∧ (speaksO ot m).length = btO ot m ∧ btO ot m ≤ n ∧ (1 < (lv (spo ot)).length → 0 < (speaksO ot m).length) ∧
      ∀ k, (hk : k < (speaksO ot m).length) → (speaksO ot m)[k].1 = (n : Int) - k ∧ whoO ot (speaksO ot m)[k].1 (speaksO ot m)[k].2 = (m, true) ∧ (k = 0 → (speaksO ot m)[k].2 = x) := by
  cases ot with
  | none => cases hm
  | some t =>
    cases hof : off t m with
    | none => exact absurd hm ((off_none t m).1 hof)
    | some p =>
      have hp : p.length ≤ 60 := by have := off_high hof; have hh2 : ht t ≤ 60 := hh; omega
      obtain ⟨e, hf⟩ := speaks_range hof hd hp
      have hb : btO (some t) m = bt p := by simp [btO, pth, hof]
      have hl : (speaksO (some t) m).length = bt p := by rw [e]; simp
      have hlt : ∀ k, k < bt p → k < p.length := fun k hk => by
        have := hf k hk
        unfold spF at this
        simp only [Bool.and_eq_true, decide_eq_true_eq] at this
        exact this.2
      refine ⟨p.length, (idx p : Int), hp, by simp [ofO, offO, hof, labOf], by rw [hl, hb], ?_, fun h1 => ?_, fun k hk => ?_⟩
      · rw [hb]
        cases hbp : bt p with
        | zero => omega
        | succ b => have := hlt b (by omega); omega
      · rw [hl]
        exact bt_pos fun e => by subst e; have := off_nil hof; have h2 : 1 < (lv (flat t)).length := h1; omega
      · have hk2 : k < bt p := by rw [← hl]; exact hk
        have hkp := hlt k hk2
        have eg : (speaksO (some t) m)[k] = labOf (p.take (p.length - k)) := by
          simp only [e, List.getElem_map, List.getElem_range]
        have hs := spk_at hof hd hp (j := k) (by omega)
        have hsf : spk (some t) m (labOf (p.take (p.length - k))) = true := by rw [hs.1]; exact hf k hk2
        rw [eg]
        refine ⟨by simp [labOf]; omega, ?_, fun h0 => by subst h0; simp [labOf]⟩
        unfold spk at hsf
        simp only [Bool.and_eq_true, decide_eq_true_eq] at hsf
        exact Prod.ext hsf.1 hs.2
theorem mems_cell {n : Nat} {w : World} {xs : List (Int × Int)} {g o la ca : Nat} (h : Mems n w xs [.slice (some ⟨g, o, none⟩) la ca]) (i : Nat) (hi : i < xs.length) : g < n ∧ w.cell? ⟨g, o + i * 2, none⟩ = some (.int .i64 xs[i].1) ∧ w.cell? ⟨g, o + i * 2 + 1, none⟩ = some (.int .i64 xs[i].2) := by
  obtain ⟨A, cap, e, h1, h2, h3⟩ := mems_at h
  simp only [Value.slice.injEq] at e
  obtain ⟨rfl, _, rfl⟩ := e
  obtain ⟨b, off, e2, hb, k0, k1⟩ := h3 i hi
  cases e2
  exact ⟨hb, k0, k1⟩
theorem mems_some {n : Nat} {w : World} {xs : List (Int × Int)} {A : Option Addr} {la ca : Nat} (h : Mems n w xs [.slice A la ca]) (i : Nat) (hi : i < xs.length) : ∃ g o, A = some ⟨g, o, none⟩ := by
  obtain ⟨A', cap, e, h1, h2, h3⟩ := mems_at h
  simp only [Value.slice.injEq] at e
  obtain ⟨rfl, _, rfl⟩ := e
  obtain ⟨b, off, e2, _⟩ := h3 i hi
  exact ⟨b, off, e2⟩

end Go.Proofs.Ytlmkgkfildgkgaa
