import Derived.Test.YtkmlnglmecjmeaaPlaN
import Derived.Test.YtkmlnglmecjmeaaGraD
/- Members in order as an insertion sort leaves them, what a merge makes of trees in any order, what is left of one key and who comes beside it, plainly. Of no program. No condition but those named. -/
namespace Go.Proofs.Ytkmlnglmecjmeaa
open Go.RowKit
set_option linter.unusedVariables false

theorem leafO_inj {x y : Int × Int} (h : leafO x = leafO y) : x = y := by
  have h2 : lvO (leafO x) = lvO (leafO y) := congrArg lvO h
  rw [show lvO (leafO x) = [x] from rfl, show lvO (leafO y) = [y] from rfl] at h2
  simpa using h2
theorem leafs_inj : ∀ {a b : List (Int × Int)}, a.map leafO = b.map leafO → a = b
  | [], [], _ => rfl
  | [], _ :: _, h => by simp at h
  | _ :: _, [], h => by simp at h
  | x :: a, y :: b, h => by
    simp only [List.map_cons, List.cons.injEq] at h
    rw [leafO_inj h.1, leafs_inj h.2]
/-- Where a member is put in. -/
def kM (x : Int × Int) (l : List (Int × Int)) : Nat := kIx (leafO x) (l.map leafO)
theorem kM_le (x : Int × Int) (l : List (Int × Int)) : kM x l ≤ l.length := by
  have := kIx_le (leafO x) (l.map leafO)
  rwa [List.length_map] at this
theorem insM_at {x : Int × Int} {l : List (Int × Int)} {j : Nat} (hx : x ∉ l) (h : kM x l = j) : insM x l = l.take j ++ x :: l.drop j := by
  apply leafs_inj
  rw [← insG_leaf x l hx, insG_at h, List.map_append, List.map_cons, List.map_take, List.map_drop]
  rfl
theorem insM_perm {x : Int × Int} {l : List (Int × Int)} (hx : x ∉ l) : (insM x l).Perm (x :: l) := by
  rw [insM_at hx rfl]
  refine List.perm_middle.trans ?_
  rw [List.take_append_drop]
def sortM (ms : List (Int × Int)) : List (Int × Int) := ms.foldl (fun out m => insM m out) []
theorem sortM_snoc (ms : List (Int × Int)) (k : Nat) (h : k < ms.length) : sortM (ms.take (k + 1)) = insM ms[k] (sortM (ms.take k)) := by
  unfold sortM
  rw [List.take_succ_eq_append_getElem h, List.foldl_append]
  rfl
theorem get_fresh {ms : List (Int × Int)} (hd : ms.Nodup) (k : Nat) (h : k < ms.length) : ms[k] ∉ ms.take k := by
  intro hm
  obtain ⟨j, hj, e⟩ := List.getElem_of_mem hm
  rw [List.length_take] at hj
  rw [List.getElem_take] at e
  exact (List.pairwise_iff_getElem.1 hd) j k (by omega) h (by omega) e
theorem sortM_facts (ms : List (Int × Int)) (hd : ms.Nodup) (k : Nat) : k ≤ ms.length → Srt ((sortM (ms.take k)).map leafO) ∧ (sortM (ms.take k)).length = k ∧ (sortM (ms.take k)).Perm (ms.take k) := by
  induction k with
  | zero => intro _; exact ⟨by simp [sortM, Srt], by simp [sortM], by simp [sortM]⟩
  | succ k ih =>
    intro hk
    obtain ⟨h1, h2, h3⟩ := ih (by omega)
    have hn : ms[k] ∉ sortM (ms.take k) := fun hm => get_fresh hd k (by omega) (h3.mem_iff.1 hm)
    have hp := insM_perm hn
    rw [sortM_snoc ms k (by omega)]
    refine ⟨?_, by rw [hp.length_eq]; simp [h2], ?_⟩
    · rw [← insG_leaf _ _ hn]
      exact srt_ins h1
    · rw [List.take_succ_eq_append_getElem (by omega)]
      exact hp.trans ((h3.cons _).trans (List.perm_append_singleton _ _).symm)
theorem sortM_perm {ms : List (Int × Int)} (hd : ms.Nodup) : (sortM ms).Perm ms := by
  have := (sortM_facts ms hd ms.length (Nat.le_refl _)).2.2
  rwa [List.take_of_length_le (Nat.le_refl _)] at this
theorem srtM_at {x : Int × Int} {l : List (Int × Int)} (h : Srt (l.map leafO)) {j : Nat} (hj : j < l.length) : lessM x.1 x.2 l[j].1 l[j].2 = decide (kM x l ≤ j) := by
  have h2 := srt_at (x := leafO x) h (j := j) (by simpa using hj)
  rw [List.getElem_map, ahead_leaf] at h2
  exact h2
theorem membersO_sort (l : List Fl) : membersO l = sortM (l.map (·.who)) := by
  unfold membersO sortM
  rw [List.foldl_map]
/-- Members with one put in at a place. -/
def at3m (a : List (Int × Int)) (x : Int × Int) (j : Nat) (r : List (Int × Int)) : List (Int × Int) := a.take j ++ x :: (a.drop j ++ r)
theorem at3m_len (a : List (Int × Int)) (x : Int × Int) (j : Nat) (r : List (Int × Int)) (h : j ≤ a.length) : (at3m a x j r).length = a.length + 1 + r.length := by
  simp only [at3m, List.length_append, List.length_cons, List.length_take, List.length_drop]
  omega
theorem at3m_here (a : List (Int × Int)) (x : Int × Int) (j : Nat) (r : List (Int × Int)) (h : j ≤ a.length) : (at3m a x j r)[j]? = some x := by
  have e : (a.take j).length = j := by rw [List.length_take]; omega
  unfold at3m
  rw [List.getElem?_append_right (by rw [e]; exact Nat.le_refl _), e, Nat.sub_self]
  rfl
theorem at3m_prev (a : List (Int × Int)) (x : Int × Int) (j : Nat) (r : List (Int × Int)) (h : j < a.length) : (at3m a x (j + 1) r)[j]? = some a[j] := by
  unfold at3m
  rw [List.getElem?_append_left (by simp; omega), List.getElem?_take, if_pos (by omega), List.getElem?_eq_getElem h]
theorem sortM_split {ms : List (Int × Int)} (hd : ms.Nodup) {i : Nat} (hi : i < ms.length) : sortM (ms.take i) ++ ms.drop i = at3m (sortM (ms.take i)) ms[i] i (ms.drop (i + 1)) := by
  have hl := (sortM_facts ms hd i (by omega)).2.1
  obtain ⟨s, hs⟩ : ∃ s, sortM (ms.take i) = s := ⟨_, rfl⟩
  rw [hs] at hl ⊢
  unfold at3m
  rw [List.take_of_length_le (l := s) (by omega), List.drop_of_length_le (l := s) (by omega), List.nil_append, ← List.drop_eq_getElem_cons hi]
theorem sortM_ins {ms : List (Int × Int)} (hd : ms.Nodup) {i j : Nat} (hi : i < ms.length) (hk : kM ms[i] (sortM (ms.take i)) = j) : at3m (sortM (ms.take i)) ms[i] j (ms.drop (i + 1)) = sortM (ms.take (i + 1)) ++ ms.drop (i + 1) := by
  have hn : ms[i] ∉ sortM (ms.take i) := fun hm => get_fresh hd i hi ((sortM_facts ms hd i (by omega)).2.2.mem_iff.1 hm)
  rw [sortM_snoc ms i hi, insM_at hn hk]
  simp [at3m]
theorem sortM_one (ms : List (Int × Int)) : sortM (ms.take 1) ++ ms.drop 1 = ms := by
  cases ms with
  | nil => rfl
  | cons x r => rfl

/-- A merge of trees that have no member in common: in whatever order they are told. -/
theorem mergeO_perm {a b : List (Option Tr)} (hp : a.Perm b) (hd : (allO a).Nodup) : mergeO a = mergeO b := by
  unfold mergeO
  rw [sortG_fold, sortG_fold]
  rw [List.Perm.foldl_eq' hp]
  intro x hx y hy z
  by_cases e : x = y
  · rw [e]
  · refine putG_comm (fun m hm hmy => ?_) z
    obtain ⟨i, hi, rfl⟩ := List.getElem_of_mem hx
    obtain ⟨j, hj, rfl⟩ := List.getElem_of_mem hy
    have h2 := List.pairwise_iff_getElem.1 ((List.pairwise_flatMap.1 hd).2)
    rcases Nat.lt_trichotomy i j with h | h | h
    · exact h2 i j hi hj h m hm m hmy rfl
    · subst h; exact e rfl
    · exact h2 j i hj hi h m hmy m hm rfl

/-- Those that had a key. -/
def keyedO (l : List Fl) : List Fl := l.filter fun f => decide (f.id ≠ (0, 0, 0))
/-- All who had a key had this one, and tell this tree. -/
def oneKey (l : List Fl) (K : Int × Int × Int) (t : Tr) : Prop := ∀ f ∈ l, f.id ≠ (0, 0, 0) → f.id = K ∧ f.tree = some t
theorem ids_kept {K : Int × Int × Int} : ∀ (l : List Fl), (∀ f ∈ l, f.id ≠ (0, 0, 0) → f.id = K) → l.foldl (fun ids f => if f.id = (0, 0, 0) ∨ f.id ∈ ids then ids else ids ++ [f.id]) [K] = [K]
  | [], _ => rfl
  | f :: l, h => by
    rw [List.foldl_cons, if_pos]
    · exact ids_kept l fun g hg => h g (List.mem_cons_of_mem _ hg)
    · by_cases e : f.id = (0, 0, 0)
      · exact Or.inl e
      · exact Or.inr (by rw [h f (by simp) e]; simp)
theorem idsO_one {K : Int × Int × Int} : ∀ (l : List Fl), (∀ f ∈ l, f.id ≠ (0, 0, 0) → f.id = K) → idsO l = if keyedO l = [] then [] else [K]
  | [], _ => rfl
  | f :: l, h => by
    have h2 : ∀ g ∈ l, g.id ≠ (0, 0, 0) → g.id = K := fun g hg => h g (List.mem_cons_of_mem _ hg)
    have ih := idsO_one l h2
    unfold idsO at ih ⊢
    rw [List.foldl_cons]
    by_cases e : f.id = (0, 0, 0)
    · rw [if_pos (Or.inl e), ih]
      have e2 : keyedO (f :: l) = keyedO l := by unfold keyedO; rw [List.filter_cons_of_neg (by simpa using e)]
      rw [e2]
    · rw [if_neg (by simpa using e), h f (by simp) e]
      have e2 : keyedO (f :: l) = f :: keyedO l := by unfold keyedO; rw [List.filter_cons_of_pos (by simpa using e)]
      rw [e2, if_neg (by simp)]
      exact ids_kept l h2
theorem keyed_is {l : List Fl} {K : Int × Int × Int} {t : Tr} (h : oneKey l K t) (hK : keyedO l ≠ []) : l.filter (fun f => decide (f.id = K)) = keyedO l := by
  unfold keyedO at hK ⊢
  refine List.filter_congr fun f hf => ?_
  have hK2 : K ≠ (0, 0, 0) := by
    obtain ⟨g, hg⟩ := List.exists_mem_of_ne_nil _ hK
    obtain ⟨h1, h2⟩ := List.mem_filter.1 hg
    have h3 : g.id ≠ (0, 0, 0) := of_decide_eq_true h2
    rw [← (h g h1 h3).1]
    exact h3
  by_cases e : f.id = (0, 0, 0)
  · rw [e, decide_eq_false (Ne.symm hK2)]
    simp
  · rw [(h f hf e).1]
    simp [hK2]
/-- What is left of the one key. -/
theorem groups_one {l : List Fl} {K : Int × Int × Int} {t : Tr} (h : oneKey l K t) : groupsO l = if keyedO l = [] then [] else [keepO ((keyedO l).map (·.who)) (some t)] := by
  unfold groupsO
  rw [idsO_one l fun f hf e => (h f hf e).1]
  by_cases hk : keyedO l = []
  · rw [if_pos hk, if_pos hk]
    rfl
  · rw [if_neg hk, if_neg hk]
    show [keptO l K] = _
    unfold keptO whosO firstO
    rw [keyed_is h hk]
    cases hc : keyedO l with
    | nil => exact absurd hc hk
    | cons g r =>
      have hg : g ∈ keyedO l := by rw [hc]; simp
      obtain ⟨h1, h2⟩ := List.mem_filter.1 hg
      show [keepO _ g.tree] = _
      rw [(h g h1 (of_decide_eq_true h2)).2]

/-- Who comes beside what is left, in order. -/
def besideO (l : List Fl) : List (Int × Int) := (sortM (l.map (·.who))).filter fun m => decide (m ∉ allO (groupsO l))
theorem beside_perm {l : List Fl} (hd : (l.map (·.who)).Nodup) : (besideO l).Perm (restO l) := (sortM_perm hd).filter _
theorem filter_sub {α : Type} (p : α → Bool) (l : List α) : (l.filter p).length ≤ l.length := List.length_filter_le _ _
/-- What a merge is asked. -/
theorem shape_facts {l : List Fl} (hk : okFs l) {K : Int × Int × Int} {t : Tr} (h1 : oneKey l K t) :
    (groupsO l ++ (besideO l).map leafO).length ≤ 12 ∧ (∀ x ∈ groupsO l ++ (besideO l).map leafO, okT (spo x) = true ∧ htO x ≤ 8) ∧ (allO (groupsO l ++ (besideO l).map leafO)).Nodup ∧ (allO (groupsO l ++ (besideO l).map leafO)).length ≤ 60 ∧
    mergeO (groupsO l ++ (besideO l).map leafO) = shapeO l := by
  obtain ⟨hF, hd, hn, _⟩ := hk
  have hp := beside_perm hd
  have hb : (besideO l).length ≤ 11 := by
    rw [hp.length_eq]
    exact Nat.le_trans (List.length_filter_le _ _) (by simpa using hn)
  have hG : (groupsO l).length ≤ 1 ∧ (∀ x ∈ groupsO l, okT (spo x) = true ∧ htO x ≤ 8) ∧ (allO (groupsO l)).Nodup ∧ (allO (groupsO l)).length ≤ 40 := by
    rw [groups_one h1]
    by_cases hk : keyedO l = []
    · rw [if_pos hk]
      exact ⟨Nat.zero_le _, fun x hx => by simp at hx, List.nodup_nil, by simp [allO]⟩
    · rw [if_neg hk]
      obtain ⟨g, hg⟩ := List.exists_mem_of_ne_nil _ hk
      obtain ⟨g1, g2⟩ := List.mem_filter.1 hg
      obtain ⟨-, -, -, o1, o2, o3, -⟩ := hF g g1
      rw [(h1 g g1 (of_decide_eq_true g2)).2] at o1 o2 o3
      have ha : allO [keepO ((keyedO l).map (·.who)) (some t)] = lvO (keepO ((keyedO l).map (·.who)) (some t)) := by simp [allO]
      have hnd := ((once_iff _).1 (okT_parts o1).2.2).2
      have hle := Nat.le_trans (List.length_filter_le (fun m => decide (m ∈ (keyedO l).map (·.who))) (lvO (some t))) (show (lvO (some t)).length ≤ 40 from by
        have hc := spo_count t
        have e1 : (spo (some t)).length = (flat t).length := rfl
        omega)
      rw [ha, lvO_keep]
      refine ⟨Nat.le_refl _, fun x hx => ?_, hnd.filter _, hle⟩
      rw [List.mem_singleton.1 hx]
      exact ⟨okT_keep o1 _, by have := ht_keep ((keyedO l).map (·.who)) (some t); omega⟩
  have hall : allO (groupsO l ++ (besideO l).map leafO) = allO (groupsO l) ++ besideO l := by rw [allO_append, allO_leaves]
  have hnd : (allO (groupsO l ++ (besideO l).map leafO)).Nodup := by
    rw [hall]
    refine List.nodup_append.2 ⟨hG.2.2.1, ((sortM_perm hd).nodup_iff.2 hd).filter _, fun a ha b hb e => ?_⟩
    subst e
    exact (of_decide_eq_true (List.mem_filter.1 hb).2) ha
  refine ⟨by rw [List.length_append, List.length_map]; omega, fun x hx => ?_, hnd, by rw [hall, List.length_append]; omega, ?_⟩
  · rcases List.mem_append.1 hx with hx | hx
    · exact hG.2.1 x hx
    · obtain ⟨m, hm, rfl⟩ := List.mem_map.1 hx
      have hm2 : m ∈ l.map (·.who) := (sortM_perm hd).mem_iff.1 (List.mem_filter.1 hm).1
      obtain ⟨f, hf, rfl⟩ := List.mem_map.1 hm2
      have := leaf_ok (hF f hf).1
      exact ⟨this.1, by omega⟩
  · unfold shapeO
    exact mergeO_perm ((List.Perm.refl _).append (hp.map _)) hnd

end Go.Proofs.Ytkmlnglmecjmeaa
