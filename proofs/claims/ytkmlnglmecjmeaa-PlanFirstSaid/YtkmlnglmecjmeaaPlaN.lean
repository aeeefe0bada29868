import Derived.Test.YtkmlnglmecjmeaaGraM
import Derived.Test.YtkmlnglmecjmeaaGraD
/- What layer 15's calls answer, plainly: the tree of who come together, who draws anew, who they are; what follows of those who come without a last key, and of one that comes to a tree. Of no program. No condition but those named. -/
namespace Go.Proofs.Ytkmlnglmecjmeaa
open Go.RowKit
set_option linter.unusedVariables false

/-- What a member tells: who, of which last key, its tree, whether it wants a new one. -/
structure Fl where
  who : Int × Int
  id : Int × Int × Int
  tree : Option Tr
  want : Bool
/-- The ids of keys, each once, as they are told first. -/
def idsO (l : List Fl) : List (Int × Int × Int) := l.foldl (fun ids f => if f.id = (0, 0, 0) ∨ f.id ∈ ids then ids else ids ++ [f.id]) []
def whosO (l : List Fl) (id : Int × Int × Int) : List (Int × Int) := (l.filter fun f => decide (f.id = id)).map (·.who)
def firstO (l : List Fl) (id : Int × Int × Int) : Option Tr := match l.filter fun f => decide (f.id = id) with
  | [] => none
  | f :: _ => f.tree
/-- What is left of a key. -/
def keptO (l : List Fl) (id : Int × Int × Int) : Option Tr := keepO (whosO l id) (firstO l id)
def groupsO (l : List Fl) : List (Option Tr) := (idsO l).map (keptO l)
def leafO (m : Int × Int) : Option Tr := some (.leaf m.1 m.2)
def restO (l : List Fl) : List (Int × Int) := (l.map (·.who)).filter fun m => decide (m ∉ allO (groupsO l))
def shapeO (l : List Fl) : Option Tr := mergeO (groupsO l ++ (restO l).map leafO)
/-- Does one draw anew? -/
def drawsO (l : List Fl) (m : Int × Int) : Bool := l.any fun f => decide (f.who = m) && (f.want || decide (f.id = (0, 0, 0)))
/-- Who draws anew, of these in order: the last one, and who ought to. -/
def freshO (l : List Fl) : List (Int × Int) → List (Int × Int)
  | [] => []
  | m :: r => (if r = [] ∨ drawsO l m = true then [m] else []) ++ freshO l r
/-- Members in order, each once. -/
def insM (m : Int × Int) : List (Int × Int) → List (Int × Int)
  | [] => [m]
  | y :: r => if lessM y.1 y.2 m.1 m.2 then y :: insM m r else if y = m then y :: r else m :: y :: r
def membersO (l : List Fl) : List (Int × Int) := l.foldl (fun out f => insM f.who out) []
/-- May these be told: each of an unlike one, that may be; a tree, of which it is, just where there was a key? -/
def okF (f : Fl) : Prop := okM f.who.1 f.who.2 = true ∧ (f.id = (0, 0, 0) ↔ f.tree = none) ∧ okV f.id.1 f.id.2.1 f.id.2.2 = true ∧ okT (spo f.tree) = true ∧ htO f.tree ≤ 8 ∧ (spo f.tree).length ≤ 40 ∧ (∀ t, f.tree = some t → f.who ∈ lvO f.tree)
def okFs (l : List Fl) : Prop := (∀ f ∈ l, okF f) ∧ (l.map (·.who)).Nodup ∧ l.length ≤ 11 ∧ ∃ (K : Int × Int × Int) (t : Tr), ∀ f ∈ l, f.id ≠ (0, 0, 0) → f.id = K ∧ f.tree = some t

/-- One that comes without a last key. -/
def newF (m : Int × Int) : Fl := ⟨m, (0, 0, 0), none, false⟩
theorem idsO_new (ms : List (Int × Int)) : idsO (ms.map newF) = [] := by
  unfold idsO
  induction ms with
  | nil => rfl
  | cons m ms ih => rw [List.map_cons, List.foldl_cons]; simpa [newF] using ih
theorem who_new (ms : List (Int × Int)) : (ms.map newF).map (·.who) = ms := by
  rw [List.map_map]
  exact List.map_id' ms
theorem shape_new (ms : List (Int × Int)) : shapeO (ms.map newF) = mergeO (ms.map leafO) := by
  unfold shapeO restO groupsO
  rw [idsO_new, who_new]
  have e : ms.filter (fun m => decide (m ∉ allO (([] : List (Int × Int × Int)).map (keptO (ms.map newF))))) = ms := List.filter_eq_self.2 fun _ _ => rfl
  rw [e]
  rfl
theorem allO_leaves (ms : List (Int × Int)) : allO (ms.map leafO) = ms := by
  induction ms with
  | nil => rfl
  | cons m ms ih => rw [List.map_cons, allO_cons, ih]; rfl
theorem leaf_ok {m : Int × Int} (h : okM m.1 m.2 = true) : okT (spo (leafO m)) = true ∧ htO (leafO m) ≤ 0 := by
  refine ⟨okT_of (ot := leafO m) (by simp [leafO, spo, flat]) (by simp [leafO, spo, flat, noWho]) ?_, Int.le_refl _⟩
  rw [once_iff]
  show (∀ x ∈ [m], _) ∧ [m].Nodup
  simp [h]
/-- What a merge comes to, whatever stands in it. -/
theorem merge_any {xs : List (Option Tr)} (H : Nat) (hn : xs.length ≤ 20) (hx : ∀ x ∈ xs, okT (spo x) = true ∧ htO x ≤ (H : Int)) (hH : H ≤ 30) (hd : (allO xs).Nodup) (hl : (allO xs).length ≤ 60) :
    okT (spo (mergeO xs)) = true ∧ htO (mergeO xs) ≤ (H : Int) + xs.length ∧ (lvO (mergeO xs)).length = (allO xs).length ∧ (∀ m, m ∈ lvO (mergeO xs) ↔ m ∈ allO xs) ∧ (∀ x ∈ xs, keepO (lvO x) (mergeO xs) = x) := by
  have hp := sortG_all xs
  have hsl : (sortG xs).length ≤ xs.length := by
    have := sortG_len xs xs.length (Nat.le_refl _)
    rwa [List.take_of_length_le (Nat.le_refl _)] at this
  have hmem : ∀ y ∈ sortG xs, y ∈ xs := fun y hy => sortG_mem xs xs.length (Nat.le_refl _) y (by rwa [List.take_of_length_le (Nat.le_refl _)])
  have e : (sortG xs).take (sortG xs).length = sortG xs := List.take_of_length_le (Nat.le_refl _)
  obtain ⟨g1, g2, g3, g4, g5, g6⟩ := fold_facts H (sortG xs) (sortG xs).length (Nat.le_refl _) (by omega) (fun x h => hx x (hmem x h)) hH (hp.nodup_iff.2 hd) (by rw [hp.length_eq]; omega)
  rw [e] at g1 g2 g3 g4 g5 g6
  refine ⟨g1, ?_, ?_, fun m => ?_, fun x h => ?_⟩
  · show htO ((sortG xs).foldl graftO none) ≤ _
    omega
  · show (lvO ((sortG xs).foldl graftO none)).length = _
    rw [g3, hp.length_eq]
  · exact (g2 m).trans hp.mem_iff
  · cases x with
    | none => exact keep_none (fun m _ => by rw [lvO_none]; simp)
    | some t =>
      have hi := sortG_in xs.length (Nat.le_refl _) (some t) (by rwa [List.take_of_length_le (Nat.le_refl _)]) rfl
      rw [List.take_of_length_le (Nat.le_refl _)] at hi
      obtain ⟨j, hj, e2⟩ := List.getElem_of_mem hi
      have := g6 j hj hj
      rw [e2] at this
      exact this
theorem merge_one (t : Tr) : mergeO [some t] = some t := rfl

theorem head_app {α : Type} (a b : List α) (h : a ≠ []) : (a ++ b).head? = a.head? := by
  cases a with
  | nil => exact absurd rfl h
  | cons x xs => rfl
/-- The leftmost member stays the leftmost one. -/
theorem put_head : ∀ (t : Tr) (p : List Bool) (m : Tr), (lv (flat (put t p m))).head? = (lv (flat t)).head?
  | t, [], m => by
    rw [put_nil, show lv (flat (Tr.inner 0 0 t m)) = lv (flat t) ++ lv (flat m) from by rw [← lv_append]; rfl]
    have := lvO_pos t
    exact head_app _ _ this
  | .leaf a b, _ :: _, m => rfl
  | .inner a b l r, false :: p, m => by
    show (lv (flat (Tr.inner a b (put l p m) r))).head? = _
    rw [show lv (flat (Tr.inner a b (put l p m) r)) = lv (flat (put l p m)) ++ lv (flat r) from by rw [← lv_append]; rfl, show lv (flat (Tr.inner a b l r)) = lv (flat l) ++ lv (flat r) from by rw [← lv_append]; rfl]
    have h1 : lv (flat l) ≠ [] := lvO_pos l
    have h2 : lv (flat (put l p m)) ≠ [] := lvO_pos _
    rw [head_app _ _ h1, head_app _ _ h2]
    exact put_head l p m
  | .inner a b l r, true :: p, m => by
    show (lv (flat (Tr.inner a b l (put r p m)))).head? = _
    rw [show lv (flat (Tr.inner a b l (put r p m))) = lv (flat l) ++ lv (flat (put r p m)) from by rw [← lv_append]; rfl, show lv (flat (Tr.inner a b l r)) = lv (flat l) ++ lv (flat r) from by rw [← lv_append]; rfl]
    have h1 : lv (flat l) ≠ [] := lvO_pos l
    rw [head_app _ _ h1, head_app _ _ h1]
theorem graft_head (t : Tr) (y : Option Tr) : (lvO (graftO (some t) y)).head? = (lvO (some t)).head? := by
  cases y with
  | none => rfl
  | some m =>
    simp only [graftO, putO]
    split
    · exact put_head t _ m
    · rfl
theorem fold_head (t : Tr) : ∀ ys : List (Option Tr), (lvO (ys.foldl graftO (some t))).head? = (lvO (some t)).head?
  | [] => rfl
  | y :: ys => by
    have h := graft_head t y
    cases hg : graftO (some t) y with
    | none =>
      rw [hg, lvO_none] at h
      have := lvO_pos t
      cases hl : lvO (some t) with
      | nil => exact absurd hl this
      | cons a b => rw [hl] at h; cases h
    | some u =>
      rw [List.foldl_cons, hg, fold_head u ys, ← hg, h]

/-- The first of leaves in order is the first member in order. -/
theorem ahead_leaf (x y : Int × Int) : aheadO (leafO x) (leafO y) = lessM x.1 x.2 y.1 y.2 := by
  simp [aheadO, leafO, lvO_leaf, firstM]
theorem insG_leaf (m : Int × Int) : ∀ r : List (Int × Int), m ∉ r → insG (leafO m) (r.map leafO) = (insM m r).map leafO
  | [], _ => rfl
  | y :: r, h => by
    have hne : m ≠ y := fun e => h (by simp [e])
    simp only [List.map_cons, insG, insM, ahead_leaf]
    rcases less_total hne with h1 | h1
    · rw [h1, less_asymm h1, if_pos rfl]
      simp only [Bool.false_eq_true, if_false]
      rw [if_neg (Ne.symm hne)]
      rfl
    · rw [h1, less_asymm h1, if_pos rfl]
      simp only [Bool.false_eq_true, if_false, List.map_cons]
      rw [insG_leaf m r fun h2 => h (List.mem_cons_of_mem _ h2)]
theorem insM_mem (m x : Int × Int) : ∀ r : List (Int × Int), x ∈ insM m r ↔ x = m ∨ x ∈ r
  | [] => by simp [insM]
  | y :: r => by
    simp only [insM]
    split
    · rw [List.mem_cons, insM_mem m x r, List.mem_cons]
      exact or_left_comm
    · split
      · next h => subst h; simp
      · simp
theorem insM_pos (m : Int × Int) (r : List (Int × Int)) : insM m r ≠ [] := by
  intro h
  have := (insM_mem m m r).2 (Or.inl rfl)
  rw [h] at this
  cases this
theorem sort_fold : ∀ (ms r : List (Int × Int)), (r ++ ms).Nodup → (ms.map leafO).foldl putG (r.map leafO) = (ms.foldl (fun out m => insM m out) r).map leafO
  | [], r, _ => rfl
  | m :: ms, r, h => by
    rw [List.map_cons, List.foldl_cons, List.foldl_cons]
    have hm : m ∉ r := fun hc => (List.nodup_append.1 h).2.2 m hc m (by simp) rfl
    have e : putG (r.map leafO) (leafO m) = (insM m r).map leafO := by
      show (if (leafO m).isSome then insG (leafO m) (r.map leafO) else r.map leafO) = _
      rw [if_pos (show (leafO m).isSome = true from rfl), insG_leaf m r hm]
    rw [e]
    refine sort_fold ms (insM m r) ?_
    have hp : (insM m r).Perm (m :: r) := by
      clear h e
      induction r with
      | nil => exact List.Perm.refl _
      | cons y r ih =>
        have ih := ih fun h2 => hm (List.mem_cons_of_mem _ h2)
        simp only [insM]
        split
        · exact (ih.cons y).trans (List.Perm.swap _ _ _)
        · rw [if_neg fun e2 => hm (by simp [e2])]
    have h2 : (m :: (r ++ ms)).Perm (r ++ m :: ms) := List.perm_middle.symm
    have h3 : (insM m r ++ ms).Perm (m :: (r ++ ms)) := hp.append_right ms
    exact ((h3.trans h2).nodup_iff).2 h
theorem members_new (ms : List (Int × Int)) : membersO (ms.map newF) = ms.foldl (fun out m => insM m out) [] := by
  unfold membersO
  rw [List.foldl_map]
  rfl
theorem first_new (ms : List (Int × Int)) (hd : ms.Nodup) : (lvO (mergeO (ms.map leafO))).head? = (membersO (ms.map newF)).head? := by
  rw [members_new]
  unfold mergeO
  rw [sortG_fold]
  have := sort_fold ms [] (by simpa using hd)
  rw [List.map_nil] at this
  rw [this]
  cases ms.foldl (fun out m => insM m out) [] with
  | nil => rfl
  | cons m r =>
    show (lvO (((leafO m) :: r.map leafO).foldl graftO none)).head? = some m
    rw [List.foldl_cons]
    exact fold_head (.leaf m.1 m.2) (r.map leafO)

theorem fresh_all (l : List Fl) : ∀ ms : List (Int × Int), (∀ m ∈ ms, drawsO l m = true) → freshO l ms = ms
  | [], _ => rfl
  | m :: r, h => by
    simp only [freshO]
    rw [if_pos (Or.inr (h m (by simp))), fresh_all l r fun x hx => h x (List.mem_cons_of_mem _ hx)]
    rfl
theorem fresh_last (l : List Fl) : ∀ ms : List (Int × Int), ms ≠ [] → (∀ m ∈ ms, drawsO l m = false) → (freshO l ms).length = 1
  | [], h, _ => absurd rfl h
  | m :: r, _, h => by
    simp only [freshO, List.length_append]
    by_cases hr : r = []
    · subst hr; simp [freshO]
    · rw [if_neg (by rw [h m (by simp)]; simpa using hr)]
      have := fresh_last l r hr fun x hx => h x (List.mem_cons_of_mem _ hx)
      simpa using this
theorem fresh_mem (l : List Fl) (m : Int × Int) : ∀ ms : List (Int × Int), m ∈ ms → drawsO l m = true → m ∈ freshO l ms
  | [], h, _ => by cases h
  | x :: r, h, hd => by
    simp only [freshO]
    rcases List.mem_cons.1 h with rfl | h
    · rw [if_pos (Or.inr hd)]; simp
    · exact List.mem_append_right _ (fresh_mem l m r h hd)
theorem fresh_few (l : List Fl) (m : Int × Int) : ∀ ms : List (Int × Int), ms.Nodup → (∀ x ∈ ms, x ≠ m → drawsO l x = false) → (freshO l ms).length ≤ 2 ∧ (m ∉ ms → (freshO l ms).length ≤ 1)
  | [], _, _ => by simp [freshO]
  | x :: r, hd, h => by
    have hd2 := List.nodup_cons.1 hd
    have ih := fresh_few l m r hd2.2 fun y hy => h y (List.mem_cons_of_mem _ hy)
    simp only [freshO, List.length_append]
    by_cases hr : r = []
    · subst hr; simp [freshO]
    · by_cases hx : x = m
      · subst hx
        have := ih.2 hd2.1
        refine ⟨?_, fun h2 => absurd List.mem_cons_self h2⟩
        split <;> simp <;> omega
      · rw [if_neg (by rw [h x (by simp) hx]; simpa using hr)]
        refine ⟨by simpa using ih.1, fun h2 => ?_⟩
        simpa using ih.2 fun h3 => h2 (List.mem_cons_of_mem _ h3)

theorem okF_new {m : Int × Int} (h : okM m.1 m.2 = true) : okF (newF m) := by
  refine ⟨h, ⟨fun _ => rfl, fun _ => rfl⟩, by show okV 0 0 0 = true; decide +kernel, rfl, by show (-1 : Int) ≤ 8; decide, Nat.zero_le _, fun t ht => by cases ht⟩
theorem okFs_new {ms : List (Int × Int)} (hm : ∀ m ∈ ms, okM m.1 m.2 = true) (hd : ms.Nodup) (hn : ms.length ≤ 11) : okFs (ms.map newF) := by
  refine ⟨fun f hf => ?_, by rwa [who_new], by simpa using hn, (0, 0, 0), .leaf 0 0, fun f hf h => ?_⟩
  · obtain ⟨m, h1, rfl⟩ := List.mem_map.1 hf
    exact okF_new (hm m h1)
  · obtain ⟨m, h1, rfl⟩ := List.mem_map.1 hf
    exact absurd rfl h
/-- Those who come without a last key. -/
theorem first_facts {ms : List (Int × Int)} (hm : ∀ m ∈ ms, okM m.1 m.2 = true) (hd : ms.Nodup) (hn : ms.length ≤ 10) :
    okFs (ms.map newF) ∧ okT (spo (shapeO (ms.map newF))) = true ∧ htO (shapeO (ms.map newF)) ≤ 10 ∧ (lvO (shapeO (ms.map newF))).length = ms.length ∧
    (∀ k, k ≤ ms.length → okFs ((ms.map newF).drop k ++ (ms.map newF).take k) ∧ shapeO ((ms.map newF).drop k ++ (ms.map newF).take k) = shapeO (ms.map newF)) ∧
    (lvO (shapeO (ms.map newF))).head? = (membersO (ms.map newF)).head? ∧ (freshO (ms.map newF) (lvO (shapeO (ms.map newF)))).length = ms.length := by
  have hall := allO_leaves ms
  have hle : ∀ x ∈ ms.map leafO, okT (spo x) = true ∧ htO x ≤ ((0 : Nat) : Int) := fun x hx => by
    obtain ⟨m, h1, rfl⟩ := List.mem_map.1 hx
    exact leaf_ok (hm m h1)
  obtain ⟨f1, f2, f3, f4, _⟩ := merge_any 0 (by simp; omega) hle (by omega) (by rwa [hall]) (by rw [hall]; omega)
  have hsh := shape_new ms
  rw [← hsh] at f1 f2 f3 f4
  refine ⟨okFs_new hm hd (by omega), f1, by simp at f2; omega, by rw [f3, hall], fun k hk => ?_, by rw [hsh]; exact first_new ms hd, ?_⟩
  · rw [← List.map_drop, ← List.map_take, ← List.map_append]
    have hp : (ms.drop k ++ ms.take k).Perm ms := by
      have := List.perm_append_comm (l₁ := ms.drop k) (l₂ := ms.take k)
      rwa [List.take_append_drop] at this
    refine ⟨okFs_new (fun m h => hm m (hp.mem_iff.1 h)) (hp.nodup_iff.2 hd) (by rw [hp.length_eq]; omega), ?_⟩
    rw [shape_new, hsh, List.map_append]
    have e : ms.map leafO = (ms.take k).map leafO ++ (ms.drop k).map leafO := by rw [← List.map_append, List.take_append_drop]
    rw [e]
    refine mergeO_swap ?_
    rw [← List.map_append, allO_leaves]
    exact hp.nodup_iff.2 hd
  · rw [fresh_all, f3, hall]
    intro m h
    have h2 := (f4 m).1 h
    rw [hall] at h2
    unfold drawsO
    rw [List.any_eq_true]
    exact ⟨newF m, List.mem_map.2 ⟨m, h2, rfl⟩, by simp [newF]⟩

/-- One that had the first key of all, of this tree. -/
def oldF (t : Tr) (m : Int × Int) : Fl := ⟨m, (1, 0, 1), some t, false⟩
theorem who_old (t : Tr) (ms : List (Int × Int)) : (ms.map (oldF t)).map (·.who) = ms := by
  rw [List.map_map]
  exact List.map_id' ms
theorem ids_old (t : Tr) : ∀ ms : List (Int × Int), (ms.map (oldF t)).foldl (fun ids f => if f.id = (0, 0, 0) ∨ f.id ∈ ids then ids else ids ++ [f.id]) [(1, 0, 1)] = [(1, 0, 1)]
  | [] => rfl
  | m :: ms => by
    rw [List.map_cons, List.foldl_cons, if_pos (Or.inr (by simp [oldF]))]
    exact ids_old t ms
theorem idsO_old (t : Tr) (ms : List (Int × Int)) (hm : ms ≠ []) (l : List (Int × Int)) : idsO (ms.map (oldF t) ++ l.map newF) = [(1, 0, 1)] := by
  unfold idsO
  rw [List.foldl_append]
  cases ms with
  | nil => exact absurd rfl hm
  | cons m ms =>
    rw [List.map_cons, List.foldl_cons, if_neg (by simp [oldF])]
    have e : ([] : List (Int × Int × Int)) ++ [(oldF t m).id] = [(1, 0, 1)] := rfl
    rw [e, ids_old t ms]
    induction l with
    | nil => rfl
    | cons x l ih => rw [List.map_cons, List.foldl_cons, if_pos (Or.inl (show (newF x).id = (0, 0, 0) from rfl))]; exact ih
theorem filter_old (t : Tr) (ms l : List (Int × Int)) : (ms.map (oldF t) ++ l.map newF).filter (fun f => decide (f.id = (1, 0, 1))) = ms.map (oldF t) := by
  rw [List.filter_append]
  have e1 : (ms.map (oldF t)).filter (fun f => decide (f.id = (1, 0, 1))) = ms.map (oldF t) := List.filter_eq_self.2 fun f hf => by
    obtain ⟨m, _, rfl⟩ := List.mem_map.1 hf
    simp [oldF]
  have e2 : (l.map newF).filter (fun f => decide (f.id = (1, 0, 1))) = [] := List.filter_eq_nil_iff.2 fun f hf => by
    obtain ⟨m, _, rfl⟩ := List.mem_map.1 hf
    simp [newF]
  rw [e1, e2, List.append_nil]
theorem groups_old {t : Tr} (hk : okT (spo (some t)) = true) (l : List (Int × Int)) : groupsO ((lvO (some t)).map (oldF t) ++ l.map newF) = [some t] := by
  unfold groupsO
  rw [idsO_old t _ (lvO_pos t)]
  show [keptO _ _] = _
  congr 1
  unfold keptO whosO firstO
  rw [filter_old, who_old]
  have hne := lvO_pos t
  cases hl : lvO (some t) with
  | nil => exact absurd hl hne
  | cons m r =>
    show keepO (m :: r) (some t) = some t
    rw [← hl]
    exact keep_all (okT_parts hk).2.1 fun m h => h
theorem okF_old {t : Tr} {m : Int × Int} (hk : okT (spo (some t)) = true) (hl : (flat t).length ≤ 40) (hh : ht t ≤ 8) (hm : m ∈ lvO (some t)) : okF (oldF t m) := by
  have h1 := ((once_iff _).1 (okT_parts hk).2.2).1 m hm
  exact ⟨h1, ⟨fun e => by simp [oldF] at e, fun e => by simp [oldF] at e⟩, by show okV 1 0 1 = true; decide +kernel, hk, hh, hl, fun u hu => hm⟩
/-- One that comes to those that had one key together. -/
theorem one_facts15 {t : Tr} {m : Int × Int} (hk : okT (spo (some t)) = true) (hl : (flat t).length ≤ 15) (hm : okM m.1 m.2 = true) (hn : m ∉ lvO (some t)) :
    okFs ((lvO (some t)).map (oldF t)) ∧ shapeO ((lvO (some t)).map (oldF t)) = some t ∧ (freshO ((lvO (some t)).map (oldF t)) (lvO (some t))).length = 1 ∧
    ∃ u, okFs ((lvO (some t)).map (oldF t) ++ [newF m]) ∧ shapeO ((lvO (some t)).map (oldF t) ++ [newF m]) = some u ∧ okT (spo (some u)) = true ∧ ht u ≤ 30 ∧ keepO (lvO (some t)) (some u) = some t ∧ (flat u).length = (flat t).length + 2 ∧
      m ∈ freshO ((lvO (some t)).map (oldF t) ++ [newF m]) (lvO (some u)) ∧ (freshO ((lvO (some t)).map (oldF t) ++ [newF m]) (lvO (some u))).length ≤ 2 := by
  have hd : (lvO (some t)).Nodup := ((once_iff _).1 (okT_parts hk).2.2).2
  have hc := spo_count t
  have hc2 : (spo (some t)).length = (flat t).length := rfl
  have hh : ht t ≤ 7 := by
    have h2 := ht_lt t
    have h3 : (lv (flat t)).length = (lvO (some t)).length := rfl
    omega
  have hF : ∀ f ∈ (lvO (some t)).map (oldF t), okF f := fun f hf => by
    obtain ⟨x, h1, rfl⟩ := List.mem_map.1 hf
    exact okF_old hk (by omega) (by omega) h1
  have e0 : (lvO (some t)).map (oldF t) = (lvO (some t)).map (oldF t) ++ ([] : List (Int × Int)).map newF := by simp
  have e1 : (lvO (some t)).map (oldF t) ++ [newF m] = (lvO (some t)).map (oldF t) ++ ([m] : List (Int × Int)).map newF := rfl
  have g0 : groupsO ((lvO (some t)).map (oldF t)) = [some t] := by rw [e0]; exact groups_old hk []
  have g1 : groupsO ((lvO (some t)).map (oldF t) ++ [newF m]) = [some t] := groups_old hk [m]
  have ha : allO [some t] = lvO (some t) := by simp [allO]
  have r0 : restO ((lvO (some t)).map (oldF t)) = [] := by
    unfold restO
    rw [g0, ha, who_old]
    exact List.filter_eq_nil_iff.2 fun x hx => by simpa using hx
  have r1 : restO ((lvO (some t)).map (oldF t) ++ [newF m]) = [m] := by
    unfold restO
    rw [g1, ha, List.map_append, who_old, List.filter_append]
    have h1 : (lvO (some t)).filter (fun m => decide (m ∉ lvO (some t))) = [] := List.filter_eq_nil_iff.2 fun x hx => by simpa using hx
    rw [h1]
    simp [newF, hn]
  have s0 : shapeO ((lvO (some t)).map (oldF t)) = some t := by
    unfold shapeO
    rw [g0, r0]
    rfl
  have s1 : shapeO ((lvO (some t)).map (oldF t) ++ [newF m]) = mergeO [some t, leafO m] := by
    unfold shapeO
    rw [g1, r1]
    rfl
  have hall : allO [some t, leafO m] = lvO (some t) ++ [m] := by simp [allO, leafO, lvO_leaf]
  have hlen : (lvO (some t)).length ≤ 8 := by omega
  obtain ⟨f1, f2, f3, f4, f5⟩ := merge_any (xs := [some t, leafO m]) 7 (by simp) (fun x hx => by
    rcases List.mem_cons.1 hx with rfl | hx
    · exact ⟨hk, hh⟩
    · rcases List.mem_cons.1 hx with rfl | hx
      · have := leaf_ok hm; exact ⟨this.1, by omega⟩
      · cases hx) (by omega) (by rw [hall]; exact nodup_snoc hd hn) (by rw [hall]; simp; omega)
  refine ⟨⟨hF, by rw [who_old]; exact hd, by simp; omega, (1, 0, 1), t, fun f hf _ => by
    obtain ⟨x, _, rfl⟩ := List.mem_map.1 hf
    exact ⟨rfl, rfl⟩⟩, s0, ?_, ?_⟩
  · refine fresh_last _ _ (lvO_pos t) fun x hx => ?_
    unfold drawsO
    rw [List.any_eq_false]
    intro f hf
    obtain ⟨y, _, rfl⟩ := List.mem_map.1 hf
    simp [oldF]
  · rw [s1]
    cases hu : mergeO [some t, leafO m] with
    | none =>
      rw [hu, hall, lvO_none] at f3
      simp at f3
    | some u =>
      rw [hu] at f1 f2 f3 f4 f5
      have hcu := spo_count u
      have hcu2 : (spo (some u)).length = (flat u).length := rfl
      rw [hall] at f3 f4
      simp only [List.length_append, List.length_cons, List.length_nil] at f3
      have hdu : (lvO (some u)).Nodup := ((once_iff _).1 (okT_parts f1).2.2).2
      have hmu : m ∈ lvO (some u) := (f4 m).2 (by simp)
      refine ⟨u, ⟨fun f hf => ?_, ?_, by simp; omega, (1, 0, 1), t, fun f hf h0 => ?_⟩, rfl, f1, ?_, f5 (some t) (by simp), by omega, ?_, ?_⟩
      · rcases List.mem_append.1 hf with h | h
        · exact hF f h
        · simp at h; subst h; exact okF_new hm
      · rw [List.map_append, who_old]
        exact nodup_snoc hd hn
      · rcases List.mem_append.1 hf with h | h
        · obtain ⟨x, _, rfl⟩ := List.mem_map.1 h
          exact ⟨rfl, rfl⟩
        · simp at h
          subst h
          exact absurd rfl h0
      · have f6 : ht u ≤ (7 : Int) + 2 := by simpa [htO] using f2
        omega
      · refine fresh_mem _ m _ hmu ?_
        unfold drawsO
        rw [List.any_append, Bool.or_eq_true]
        right
        simp [newF]
      · refine (fresh_few _ m _ hdu fun x hx hne => ?_).1
        unfold drawsO
        rw [List.any_eq_false]
        intro f hf
        rcases List.mem_append.1 hf with h | h
        · obtain ⟨y, _, rfl⟩ := List.mem_map.1 h
          simp [oldF]
        · simp at h
          subst h
          simp [newF, Ne.symm hne]

end Go.Proofs.Ytkmlnglmecjmeaa
