/- Several texts in one: each part says what it proves, and under which conditions. -/
import Derived.Test.YtkmlnglmecjmeaaGraM
import Derived.Test.YtkmlnglmecjmeaaOwnNew

/- small and apart of lodgelaw12. Condition: the slices read as spots; as trees' spots, or nothings', of at most 128, 1,000 at most. -/
namespace Go.Proofs.Ytkmlnglmecjmeaa
open Go Go.RowKit
set_option linter.unusedVariables false


/-- append onto members of one's own, and where these then lie. -/
theorem append_mems_new {ops : Array Oper} {rest : List Oper} {o : Oper} {a : Act} {Q : Exit → Act → World → Prop} (w : World) (hw : Region.wanted o (yielded ops a.tmps) = true) (so x : Operand)
    (ho : o.op = .call { callee := .builtin .append, args := #[so, x], argTypes := #[22, 22] })
    (base : Nat) (v : Value) (n : Nat) (ys : List Value) (hv : a.eval so = v) (hown : w.ownsRow base 27 2 v n ys)
    (n₀ : Nat) (V : Value) (xs : List (Int × Int)) (hx : a.eval x = V) (hL : Mems n₀ w xs [V]) (hb : n + xs.length ≤ 4000000) (hbase : base ≤ w.heap.size)
    (h : ∀ v' w', w'.ownsRow base 27 2 v' (n + xs.length) (ys ++ xs.flatMap mC) → w.grownBy w' v.ownBlock → (v'.ownBlock = v.ownBlock ∨ v'.ownBlock = some w.heap.size) → wpList Try.prog ops Q rest (a.put o.dst v') w') : wpList Try.prog ops Q (o :: rest) a w :=
  append_new (enc := mC) (s := 2) (R := IsM) (fun _ _ _ _ h => h) (by decide) (fun _ => rfl) oneM Try.underlying22 infoM rfl w hw so x ho base v n ys hv hown n₀ V xs hx hL (Nat.le_trans hb (by decide)) (by omega) hbase h
/-- All members of all trees. -/
def allO (xs : List (Option Tr)) : List (Int × Int) := xs.flatMap lvO
theorem allO_snoc (xs : List (Option Tr)) (i : Nat) (h : i < xs.length) : allO (xs.take (i + 1)) = allO (xs.take i) ++ lvO xs[i] := by
  unfold allO
  rw [List.take_succ_eq_append_getElem h, List.flatMap_append]
  simp
theorem allO_split (xs : List (Option Tr)) (i : Nat) (h : i < xs.length) : allO xs = allO (xs.take i) ++ (lvO xs[i] ++ allO (xs.drop (i + 1))) := by
  have e : xs = xs.take i ++ (xs[i] :: xs.drop (i + 1)) := by
    rw [← List.drop_eq_getElem_cons h, List.take_append_drop]
  conv => lhs; rw [e]
  unfold allO
  rw [List.flatMap_append, List.flatMap_cons]
theorem allO_len (xs : List (Option Tr)) (i : Nat) : i ≤ xs.length → (∀ x ∈ xs, (lvO x).length ≤ 64) → (allO (xs.take i)).length ≤ 64 * i := by
  induction i with
  | zero => intro _ _; simp [allO]
  | succ i ih =>
    intro hi hx
    rw [allO_snoc xs i (by omega), List.length_append]
    have := ih (by omega) hx
    have := hx _ (List.getElem_mem (show i < xs.length by omega))
    omega
def apartO (xs : List (Option Tr)) : Bool := decide ((allO xs).Nodup) && decide ((allO xs).length ≤ 60)
theorem nodup_mid {p ms q : List (Int × Int)} {k : Nat} (hk : k < ms.length) (hm : ms[k] ∈ p ++ ms.take k) : ¬ (p ++ (ms ++ q)).Nodup := by
  intro hn
  have e : p ++ (ms ++ q) = (p ++ ms.take k) ++ (ms[k] :: (ms.drop (k + 1) ++ q)) := by
    have e1 : ms = ms.take k ++ (ms[k] :: ms.drop (k + 1)) := by
      rw [← List.drop_eq_getElem_cons hk, List.take_append_drop]
    conv => lhs; rw [e1]
    simp only [List.append_assoc, List.cons_append]
  rw [e, List.nodup_append] at hn
  exact hn.2.2 _ hm _ (List.mem_cons_self) rfl
/-- One that is there already. -/
theorem apart_not {xs : List (Option Tr)} {i k : Nat} (h : i < xs.length) (hk : k < (lvO xs[i]).length) (hm : (lvO xs[i])[k] ∈ allO (xs.take i) ++ (lvO xs[i]).take k) : apartO xs = false := by
  unfold apartO
  rw [decide_eq_false (by rw [allO_split xs i h]; exact nodup_mid hk hm)]
  rfl
theorem nodup_snoc {l : List (Int × Int)} {m : Int × Int} (h : l.Nodup) (hm : m ∉ l) : (l ++ [m]).Nodup := by
  rw [List.nodup_append]
  refine ⟨h, by simp, ?_⟩
  rintro a ha b hb rfl
  simp at hb
  subst hb
  exact hm ha


end Go.Proofs.Ytkmlnglmecjmeaa


/- What grafts and merges come to, plainly: they may be, have all members, each of them as they were when the others go, in whatever order. Of no program. No condition but those named. -/
namespace Go.Proofs.Ytkmlnglmecjmeaa
open Go.RowKit
set_option linter.unusedVariables false

theorem lvO_pos (t : Tr) : lvO (some t) ≠ [] := by
  intro h
  have h1 := flat_counts t
  have h2 : lv (flat t) = [] := h
  rw [h2] at h1
  simp at h1
theorem spo_count (t : Tr) : (spo (some t)).length + 1 = 2 * (lvO (some t)).length := flat_counts t
/-- Two trees as one. -/
theorem graft_facts {x y : Option Tr} (hx : okT (spo x) = true) (hy : okT (spo y) = true) (hd : (lvO x ++ lvO y).Nodup) (hl : (lvO x).length + (lvO y).length ≤ 64) (hh : htO x ≤ 60) :
    okT (spo (graftO x y)) = true ∧ (∀ m, m ∈ lvO (graftO x y) ↔ m ∈ lvO x ∨ m ∈ lvO y) ∧ (lvO (graftO x y)).Nodup ∧ (lvO (graftO x y)).length = (lvO x).length + (lvO y).length ∧ htO (graftO x y) ≤ 1 + max (htO x) (htO y) ∧
    (∀ K, (∀ m ∈ lvO y, m ∉ K) → keepO K (graftO x y) = keepO K x) ∧ (∀ K, (∀ m ∈ lvO x, m ∉ K) → keepO K (graftO x y) = keepO K y) := by
  cases x with
  | none =>
    refine ⟨hy, fun m => by simp [lvO_none, graftO], by simpa [lvO_none, graftO] using hd, by simp [graftO, lvO_none], ?_, fun K hK => ?_, fun K _ => rfl⟩
    · show htO y ≤ 1 + max (-1) (htO y)
      have : -1 ≤ htO y := by
        cases y with
        | none => exact Int.le_refl _
        | some m => have := ht_nonneg m; show -1 ≤ ht m; omega
      omega
    · show keepO K y = none
      exact keep_none hK
  | some t =>
    cases y with
    | none =>
      have e : graftO (some t) none = some t := rfl
      rw [e]
      refine ⟨hx, fun m => by simp [lvO_none], by simpa [lvO_none] using hd, by simp [lvO_none], ?_, fun K _ => rfl, fun K hK => ?_⟩
      · have := ht_nonneg t
        show ht t ≤ 1 + max (ht t) (-1)
        omega
      · show keepO K (some t) = none
        exact keep_none hK
    | some m =>
      obtain ⟨p, o, u, hs, hg, hht⟩ := graft_some t m hh
      obtain ⟨a, b, h1, h2, h3⟩ := put_lv hs m
      obtain ⟨ox1, ox2, ox3⟩ := okT_parts hx
      obtain ⟨oy1, oy2, oy3⟩ := okT_parts hy
      have e1 : lvO (some t) = a ++ b := h1
      have e3 : lvO (graftO (some t) (some m)) = a ++ (lvO (some m) ++ b) := by rw [hg]; exact h3
      have hmem : ∀ z, z ∈ lvO (graftO (some t) (some m)) ↔ z ∈ lvO (some t) ∨ z ∈ lvO (some m) := fun z => by
        rw [e3, e1]
        simp only [List.mem_append]
        constructor
        · rintro (h | h | h)
          · exact Or.inl (Or.inl h)
          · exact Or.inr h
          · exact Or.inl (Or.inr h)
        · rintro ((h | h) | h)
          · exact Or.inl h
          · exact Or.inr (Or.inr h)
          · exact Or.inr (Or.inl h)
      have hnd : (lvO (graftO (some t) (some m))).Nodup := by
        rw [e3]
        rw [e1] at hd
        rw [List.nodup_append] at hd
        obtain ⟨d1, d2, d3⟩ := hd
        rw [List.nodup_append] at d1
        obtain ⟨d4, d5, d6⟩ := d1
        rw [List.nodup_append]
        refine ⟨d4, ?_, ?_⟩
        · rw [List.nodup_append]
          exact ⟨d2, d5, fun z hz w hw e => d3 w (List.mem_append_right _ hw) z hz e.symm⟩
        · intro z hz w hw e
          rcases List.mem_append.1 hw with h | h
          · exact d3 z (List.mem_append_left _ hz) w h e
          · exact d6 z hz w h e
      have hlen : (lvO (graftO (some t) (some m))).length = (lvO (some t)).length + (lvO (some m)).length := by
        rw [e3, e1]
        simp only [List.length_append]
        omega
      have hok : okT (spo (graftO (some t) (some m))) = true := by
        refine okT_of ?_ ?_ ?_
        · rw [hg]
          have := spo_count (put t p m)
          rw [hg] at hlen
          omega
        · rw [hg]; exact put_noWho p ox2 oy2
        · rw [once_iff]
          refine ⟨fun z hz => ?_, hnd⟩
          rcases (hmem z).1 hz with h | h
          · exact once_ok ox3 h
          · exact once_ok oy3 h
      refine ⟨hok, hmem, hnd, hlen, ?_, fun K hK => ?_, fun K hK => ?_⟩
      · rw [hg]
        show ht (put t p m) ≤ 1 + max (ht t) (ht m)
        rcases hht with ⟨_, rfl⟩ | ⟨_, h⟩
        · rw [put_nil]; show 1 + max (ht t) (ht m) ≤ _; omega
        · have := ht_nonneg m; omega
      · rw [hg]
        exact keep_put_old t p m (keep_none (ot := some m) hK)
      · rw [hg]
        exact keep_put_new t p m o u hs hK
theorem htO_ge (x : Option Tr) : -1 ≤ htO x := by
  cases x with
  | none => exact Int.le_refl _
  | some t => have := ht_nonneg t; show -1 ≤ ht t; omega
/-- Trees, one by one. -/
theorem fold_facts (H : Nat) : ∀ (xs : List (Option Tr)) (k : Nat), k ≤ xs.length → xs.length ≤ 20 → (∀ x ∈ xs, okT (spo x) = true ∧ htO x ≤ (H : Int)) → H ≤ 30 → (allO xs).Nodup → (allO xs).length ≤ 64 →
    okT (spo ((xs.take k).foldl graftO none)) = true ∧ (∀ m, m ∈ lvO ((xs.take k).foldl graftO none) ↔ m ∈ allO (xs.take k)) ∧ (lvO ((xs.take k).foldl graftO none)).length = (allO (xs.take k)).length ∧ (lvO ((xs.take k).foldl graftO none)).Nodup ∧ htO ((xs.take k).foldl graftO none) ≤ (H : Int) + k ∧
    (∀ i, (hi : i < k) → (hx : i < xs.length) → keepO (lvO xs[i]) ((xs.take k).foldl graftO none) = xs[i])
  | xs, 0, _, _, _, _, _, _ => by
    refine ⟨rfl, fun m => by simp [allO, lvO_none], rfl, by simp [lvO_none], ?_, fun i hi => absurd hi (Nat.not_lt_zero _)⟩
    show (-1 : Int) ≤ _
    omega
  | xs, k + 1, hk, hn, hx, hH, hd, hl => by
    have hlt : k < xs.length := by omega
    obtain ⟨f1, f2, f3, f4, f5, f6⟩ := fold_facts H xs k (by omega) hn hx hH hd hl
    obtain ⟨g1, g2⟩ := hx _ (List.getElem_mem hlt)
    have e : (xs.take (k + 1)).foldl graftO none = graftO ((xs.take k).foldl graftO none) xs[k] := by rw [List.take_succ_eq_append_getElem hlt, List.foldl_append]; rfl
    have ea := allO_snoc xs k hlt
    have es := allO_split xs k hlt
    rw [es, ← List.append_assoc, ← ea] at hd
    rw [es, ← List.append_assoc, ← ea] at hl
    have hd1 := (List.nodup_append.1 hd).1
    rw [ea] at hd1
    obtain ⟨d1, d2, d3⟩ := List.nodup_append.1 hd1
    have hnd : (lvO ((xs.take k).foldl graftO none) ++ lvO xs[k]).Nodup := by
      rw [List.nodup_append]
      exact ⟨f4, d2, fun z hz w hw e => d3 z ((f2 z).1 hz) w hw e⟩
    have hll : (lvO ((xs.take k).foldl graftO none)).length + (lvO xs[k]).length ≤ 64 := by
      rw [List.length_append, ea, List.length_append] at hl
      omega
    obtain ⟨r1, r2, r3, r4, r5, r6, r7⟩ := graft_facts f1 g1 hnd hll (by omega)
    rw [e]
    refine ⟨r1, fun m => ?_, ?_, r3, ?_, fun i hi hix => ?_⟩
    · rw [r2, f2, ea, List.mem_append]
    · rw [r4, f3, ea, List.length_append]
    · have := htO_ge xs[k]
      have := htO_ge ((xs.take k).foldl graftO none)
      omega
    · by_cases hik : i < k
      · rw [r6 _ (fun m hm hmi => d3 m (by
          unfold allO
          rw [List.mem_flatMap]
          exact ⟨xs[i], List.mem_take_iff_getElem.2 ⟨i, by omega, rfl⟩, hmi⟩) m hm rfl)]
        exact f6 i hik hix
      · have : i = k := by omega
        subst this
        rw [r7 _ (fun m hm hmi => d3 m ((f2 m).1 hm) m hmi rfl)]
        exact keep_all (okT_parts g1).2.1 (fun m hm => hm)

end Go.Proofs.Ytkmlnglmecjmeaa


/- Trees put into an order: which trees, that the order of telling is of no account, what their merge comes to; plainly. Of no program. No condition but those named. -/
namespace Go.Proofs.Ytkmlnglmecjmeaa
open Go.RowKit
set_option linter.unusedVariables false

theorem allO_append (a b : List (Option Tr)) : allO (a ++ b) = allO a ++ allO b := by simp [allO]
theorem allO_cons (x : Option Tr) (b : List (Option Tr)) : allO (x :: b) = lvO x ++ allO b := by simp [allO]
theorem insG_perm (x : Option Tr) (l : List (Option Tr)) : (allO (insG x l)).Perm (lvO x ++ allO l) := by
  rw [insG_eq, allO_append, allO_cons]
  have e : allO l = allO (l.take (kIx x l)) ++ allO (l.drop (kIx x l)) := by rw [← allO_append, List.take_append_drop]
  rw [e]
  exact List.perm_append_comm_assoc _ _ _
theorem sortG_perm (xs : List (Option Tr)) (k : Nat) : k ≤ xs.length → (allO (sortG (xs.take k))).Perm (allO (xs.take k)) := by
  induction k with
  | zero => intro _; simp [sortG, allO]
  | succ k ih =>
    intro hk
    have hlt : k < xs.length := by omega
    rw [sortG_snoc xs k hlt, allO_snoc xs k hlt]
    cases hx : xs[k] with
    | none => simpa [lvO_none] using ih (by omega)
    | some t =>
      simp only [Option.isSome_some, if_true]
      exact ((insG_perm (some t) _).trans ((ih (by omega)).append_left _)).trans List.perm_append_comm
theorem sortG_all (xs : List (Option Tr)) : (allO (sortG xs)).Perm (allO xs) := by
  have := sortG_perm xs xs.length (Nat.le_refl _)
  rwa [List.take_of_length_le (Nat.le_refl _)] at this
theorem sortG_in {xs : List (Option Tr)} (k : Nat) : k ≤ xs.length → ∀ y ∈ xs.take k, y.isSome = true → y ∈ sortG (xs.take k) := by
  induction k with
  | zero => intro _ y hy; simp at hy
  | succ k ih =>
    intro hk y hy hs
    have hlt : k < xs.length := by omega
    rw [sortG_snoc xs k hlt]
    rw [List.take_succ_eq_append_getElem hlt] at hy
    rcases List.mem_append.1 hy with h | h
    · have := ih (by omega) y h hs
      split
      · rw [insG_eq]
        rw [← List.take_append_drop (kIx xs[k] (sortG (xs.take k))) (sortG (xs.take k))] at this
        rcases List.mem_append.1 this with h1 | h1
        · exact List.mem_append_left _ h1
        · exact List.mem_append_right _ (List.mem_cons_of_mem _ h1)
      · exact this
    · simp at h
      subst h
      rw [if_pos hs, insG_eq]
      exact List.mem_append_right _ List.mem_cons_self
/-- What a merge comes to. -/
theorem merge_facts {xs : List (Option Tr)} (hn : xs.length ≤ 8) (hx : ∀ x ∈ xs, okT (spo x) = true ∧ htO x ≤ 5) (hd : (allO xs).Nodup) (hl : (allO xs).length ≤ 60) :
    (∀ k, k ≤ (sortG xs).length → (spo (((sortG xs).take k).foldl graftO none)).length ≤ 100000 ∧ htO (((sortG xs).take k).foldl graftO none) ≤ 30) ∧
    okT (spo (mergeO xs)) = true ∧ htO (mergeO xs) ≤ 30 ∧ (lvO (mergeO xs)).length = (allO xs).length ∧ (∀ x ∈ xs, keepO (lvO x) (mergeO xs) = x) := by
  have hp := sortG_all xs
  have hsl : (sortG xs).length ≤ 8 := by
    have := sortG_len xs xs.length (Nat.le_refl _)
    rw [List.take_of_length_le (Nat.le_refl _)] at this
    omega
  have hmem : ∀ y ∈ sortG xs, y ∈ xs := fun y hy => sortG_mem xs xs.length (Nat.le_refl _) y (by rwa [List.take_of_length_le (Nat.le_refl _)])
  have F := fun k hk => fold_facts 5 (sortG xs) k hk (by omega) (fun x h => hx x (hmem x h)) (by decide) (hp.nodup_iff.2 hd) (by rw [hp.length_eq]; omega)
  have e : (sortG xs).take (sortG xs).length = sortG xs := List.take_of_length_le (Nat.le_refl _)
  obtain ⟨g1, g2, g3, g4, g5, g6⟩ := F (sortG xs).length (Nat.le_refl _)
  rw [e] at g1 g2 g3 g4 g5 g6
  refine ⟨fun k hk => ?_, g1, ?_, ?_, fun x h => ?_⟩
  · obtain ⟨f1, f2, f3, f4, f5, f6⟩ := F k hk
    exact ⟨Nat.le_trans (okT_parts f1).1 (by decide), by omega⟩
  · show htO ((sortG xs).foldl graftO none) ≤ 30
    omega
  · show (lvO ((sortG xs).foldl graftO none)).length = _
    rw [g3, hp.length_eq]
  · cases x with
    | none => exact keep_none (fun m _ => by rw [lvO_none]; simp)
    | some t =>
      have hi := sortG_in xs.length (Nat.le_refl _) (some t) (by rwa [List.take_of_length_le (Nat.le_refl _)]) rfl
      rw [List.take_of_length_le (Nat.le_refl _)] at hi
      obtain ⟨j, hj, e2⟩ := List.getElem_of_mem hi
      have := g6 j hj hj
      rw [e2] at this
      exact this

theorem less_trans {a b c : Int × Int} (h1 : lessM a.1 a.2 b.1 b.2 = true) (h2 : lessM b.1 b.2 c.1 c.2 = true) : lessM a.1 a.2 c.1 c.2 = true := by
  rw [lessM_iff] at h1 h2 ⊢
  omega
theorem less_asymm {a b : Int × Int} (h1 : lessM a.1 a.2 b.1 b.2 = true) : lessM b.1 b.2 a.1 a.2 = false := by
  rw [lessM_iff] at h1
  rw [← Bool.not_eq_true, lessM_iff]
  omega
theorem less_total {a b : Int × Int} (h : a ≠ b) : lessM a.1 a.2 b.1 b.2 = true ∨ lessM b.1 b.2 a.1 a.2 = true := by
  rw [lessM_iff, lessM_iff]
  have : ¬ (a.1 = b.1 ∧ a.2 = b.2) := fun h2 => h (Prod.ext h2.1 h2.2)
  omega
theorem ahead_iff (x y : Option Tr) : aheadO x y = true ↔ (lvO y).length < (lvO x).length ∨ ((lvO x).length = (lvO y).length ∧ lessM (firstM (lvO x)).1 (firstM (lvO x)).2 (firstM (lvO y)).1 (firstM (lvO y)).2 = true) := by
  unfold aheadO
  simp
theorem ahead_trans {x y z : Option Tr} (h1 : aheadO x y = true) (h2 : aheadO y z = true) : aheadO x z = true := by
  rw [ahead_iff] at h1 h2 ⊢
  rcases h1 with h1 | ⟨h1, h3⟩
  · rcases h2 with h2 | ⟨h2, h4⟩
    · left; omega
    · left; omega
  · rcases h2 with h2 | ⟨h2, h4⟩
    · left; omega
    · right; exact ⟨by omega, less_trans h3 h4⟩
theorem ahead_asymm {x y : Option Tr} (h1 : aheadO x y = true) : aheadO y x = false := by
  rw [← Bool.not_eq_true, ahead_iff]
  rw [ahead_iff] at h1
  rcases h1 with h1 | ⟨h1, h3⟩
  · rintro (h | ⟨h, _⟩) <;> omega
  · rintro (h | ⟨_, h4⟩)
    · omega
    · rw [less_asymm h3] at h4; cases h4
theorem firstM_mem : ∀ (m : List (Int × Int)), m ≠ [] → firstM m ∈ m
  | [], h => absurd rfl h
  | x :: xs, _ => by
    show xs.foldl _ x ∈ x :: xs
    have : ∀ (ys : List (Int × Int)) (a : Int × Int), ys.foldl (fun out y => if lessM y.1 y.2 out.1 out.2 then y else out) a = a ∨ ys.foldl (fun out y => if lessM y.1 y.2 out.1 out.2 then y else out) a ∈ ys := by
      intro ys
      induction ys with
      | nil => intro a; exact Or.inl rfl
      | cons y ys ih =>
        intro a
        simp only [List.foldl_cons]
        rcases ih (if lessM y.1 y.2 a.1 a.2 then y else a) with h | h
        · rw [h]
          split
          · exact Or.inr List.mem_cons_self
          · exact Or.inl rfl
        · exact Or.inr (List.mem_cons_of_mem _ h)
    rcases this xs x with h | h
    · rw [h]; exact List.mem_cons_self
    · exact List.mem_cons_of_mem _ h
theorem ahead_total {t u : Tr} (hd : ∀ m ∈ lvO (some t), m ∉ lvO (some u)) : aheadO (some t) (some u) = true ∨ aheadO (some u) (some t) = true := by
  rw [ahead_iff, ahead_iff]
  have hne : firstM (lvO (some t)) ≠ firstM (lvO (some u)) := fun h => by
    have h1 := firstM_mem _ (lvO_pos t)
    have h2 := firstM_mem _ (lvO_pos u)
    rw [h] at h1
    exact hd _ h1 h2
  rcases Nat.lt_trichotomy (lvO (some t)).length (lvO (some u)).length with h | h | h
  · exact Or.inr (Or.inl h)
  · rcases less_total hne with h2 | h2
    · exact Or.inl (Or.inr ⟨h, h2⟩)
    · exact Or.inr (Or.inr ⟨h.symm, h2⟩)
  · exact Or.inl (Or.inl h)
/-- Two that are put in one behind the other: in either order. -/
theorem insG_swap {x y : Option Tr} (h : aheadO x y = true) : ∀ l, insG x (insG y l) = insG y (insG x l)
  | [] => by
    have h2 := ahead_asymm h
    simp [insG, h, h2]
  | z :: r => by
    have h2 := ahead_asymm h
    cases hy : aheadO y z with
    | true =>
      have hx := ahead_trans h hy
      simp [insG, hy, hx, h, h2]
    | false =>
      cases hx : aheadO x z with
      | true => simp [insG, hy, hx, h2]
      | false => simp [insG, hy, hx, insG_swap h r]
theorem insG_comm {x y : Option Tr} (h : aheadO x y = true ∨ aheadO y x = true) (l : List (Option Tr)) : insG x (insG y l) = insG y (insG x l) := by
  rcases h with h | h
  · exact insG_swap h l
  · exact (insG_swap h l).symm
def putG (rest : List (Option Tr)) (x : Option Tr) : List (Option Tr) := if x.isSome then insG x rest else rest
theorem sortG_fold (xs : List (Option Tr)) : sortG xs = xs.foldl putG [] := rfl
theorem putG_comm {x y : Option Tr} (hd : ∀ m ∈ lvO x, m ∉ lvO y) (l : List (Option Tr)) : putG (putG l x) y = putG (putG l y) x := by
  cases x with
  | none => simp [putG]
  | some t =>
    cases y with
    | none => simp [putG]
    | some u =>
      simp only [putG, Option.isSome_some, if_true]
      exact insG_comm (ahead_total hd).symm l
theorem fold_one {x : Option Tr} : ∀ (b : List (Option Tr)) (l : List (Option Tr)), (∀ y ∈ b, ∀ m ∈ lvO x, m ∉ lvO y) → b.foldl putG (putG l x) = putG (b.foldl putG l) x
  | [], l, _ => rfl
  | y :: b, l, h => by
    simp only [List.foldl_cons]
    rw [putG_comm (h y List.mem_cons_self), fold_one b _ (fun z hz => h z (List.mem_cons_of_mem _ hz))]
theorem fold_swap : ∀ (a b : List (Option Tr)) (l : List (Option Tr)), (∀ x ∈ a, ∀ y ∈ b, ∀ m ∈ lvO x, m ∉ lvO y) → (a ++ b).foldl putG l = (b ++ a).foldl putG l
  | [], b, l, _ => by simp
  | x :: a, b, l, h => by
    have h1 := fold_swap a b (putG l x) (fun z hz => h z (List.mem_cons_of_mem _ hz))
    simp only [List.cons_append, List.foldl_cons]
    rw [h1, List.foldl_append, List.foldl_append, List.foldl_cons]
    rw [fold_one b l (fun y hy => h x List.mem_cons_self y hy)]
theorem sortG_swap {a b : List (Option Tr)} (hd : (allO (a ++ b)).Nodup) : sortG (a ++ b) = sortG (b ++ a) := by
  rw [sortG_fold, sortG_fold]
  refine fold_swap a b [] fun x hx y hy m hm hmy => ?_
  rw [allO_append, List.nodup_append] at hd
  exact hd.2.2 m (List.mem_flatMap.2 ⟨x, hx, hm⟩) m (List.mem_flatMap.2 ⟨y, hy, hmy⟩) rfl
theorem mergeO_swap {a b : List (Option Tr)} (hd : (allO (a ++ b)).Nodup) : mergeO (a ++ b) = mergeO (b ++ a) := by
  unfold mergeO
  rw [sortG_swap hd]

end Go.Proofs.Ytkmlnglmecjmeaa


/- Trees in the order in which they are merged, as a stable sort of all of them leaves them, nothings last, plainly. Of no program. No condition but those named. -/
namespace Go.Proofs.Ytkmlnglmecjmeaa
open Go.RowKit
set_option linter.unusedVariables false

theorem ahead_neg {x a b : Option Tr} (h : aheadO x a = true) : aheadO x b = true ∨ aheadO b a = true := by
  rw [ahead_iff] at h ⊢
  rw [ahead_iff]
  rw [lessM_iff] at h ⊢
  rw [lessM_iff]
  omega
/-- In order: none stands behind one that it is ahead of. -/
def Srt (l : List (Option Tr)) : Prop := l.Pairwise (fun a b => aheadO b a = false)
theorem srt_ins {x : Option Tr} : ∀ {l : List (Option Tr)}, Srt l → Srt (insG x l)
  | [], _ => List.pairwise_singleton _ _
  | y :: r, h => by
    obtain ⟨h1, h2⟩ := List.pairwise_cons.1 h
    simp only [insG]
    split
    · rename_i ha
      refine List.pairwise_cons.2 ⟨fun z hz => ?_, h⟩
      rcases List.mem_cons.1 hz with rfl | hz
      · exact ahead_asymm ha
      · rw [← Bool.not_eq_true]
        intro hzx
        have := ahead_trans hzx ha
        rw [h1 z hz] at this
        cases this
    · rename_i ha
      refine List.pairwise_cons.2 ⟨fun z hz => ?_, srt_ins h2⟩
      rcases insG_mem hz with rfl | hz
      · simpa using ha
      · exact h1 z hz
theorem kIx_before {x : Option Tr} : ∀ {l : List (Option Tr)} {j : Nat} (hj : j < l.length), j < kIx x l → aheadO x l[j] = false
  | y :: r, 0, _, h => by
    simp only [kIx] at h
    cases ha : aheadO x y
    · exact ha
    · rw [ha] at h; simp at h
  | y :: r, j + 1, hj, h => by
    simp only [kIx] at h
    cases ha : aheadO x y
    · rw [ha] at h
      simp only [Bool.false_eq_true, ↓reduceIte] at h
      exact kIx_before (l := r) (j := j) (by simpa using hj) (by omega)
    · rw [ha] at h; simp at h
theorem kIx_at {x : Option Tr} : ∀ {l : List (Option Tr)} (h : kIx x l < l.length), aheadO x l[kIx x l] = true
  | y :: r, h => by
    cases ha : aheadO x y
    · have e : kIx x (y :: r) = kIx x r + 1 := by simp [kIx, ha]
      have h2 : kIx x r < r.length := by rw [e] at h; simpa using h
      have := kIx_at h2
      simpa [e] using this
    · have e : kIx x (y :: r) = 0 := by simp [kIx, ha]
      simpa [e] using ha
/-- Of those in order, it is ahead just of those from its place on. -/
theorem srt_at {x : Option Tr} {l : List (Option Tr)} (h : Srt l) {j : Nat} (hj : j < l.length) : aheadO x l[j] = decide (kIx x l ≤ j) := by
  by_cases hk : kIx x l ≤ j
  · rw [decide_eq_true hk]
    have h1 : kIx x l < l.length := by omega
    have h2 := kIx_at h1
    rcases Nat.eq_or_lt_of_le hk with e | hlt
    · have : ∀ i (hi : i < l.length), i = kIx x l → aheadO x l[i] = true := by
        intro i hi e; subst e; exact h2
      exact this j hj e.symm
    · have h3 : aheadO l[j] l[kIx x l] = false := List.pairwise_iff_getElem.1 h _ _ h1 hj hlt
      rcases ahead_neg (b := l[j]) h2 with h4 | h4
      · exact h4
      · rw [h3] at h4; cases h4
  · rw [decide_eq_false hk]
    exact kIx_before hj (by omega)
/-- All, in order. -/
def sortA (xs : List (Option Tr)) : List (Option Tr) := xs.foldl (fun rest x => insG x rest) []
theorem sortA_snoc (xs : List (Option Tr)) (k : Nat) (h : k < xs.length) : sortA (xs.take (k + 1)) = insG xs[k] (sortA (xs.take k)) := by
  unfold sortA
  rw [List.take_succ_eq_append_getElem h, List.foldl_append]
  rfl
theorem sortA_facts (xs : List (Option Tr)) (k : Nat) : k ≤ xs.length → Srt (sortA (xs.take k)) ∧ (sortA (xs.take k)).length = k ∧ (allO (sortA (xs.take k))).Perm (allO (xs.take k)) ∧ ∀ y ∈ sortA (xs.take k), y ∈ xs := by
  induction k with
  | zero => intro _; refine ⟨by simp [sortA, Srt], by simp [sortA], by simp [sortA, allO], fun y hy => by simp [sortA] at hy⟩
  | succ k ih =>
    intro hk
    obtain ⟨h1, h2, h3, h4⟩ := ih (by omega)
    rw [sortA_snoc xs k (by omega)]
    refine ⟨srt_ins h1, by rw [insG_len, h2], ?_, fun y hy => ?_⟩
    · rw [allO_snoc xs k (by omega)]
      refine (insG_perm _ _).trans ?_
      exact (List.perm_append_comm).trans (List.Perm.append_right _ h3)
    · rcases insG_mem hy with rfl | hy
      · exact List.getElem_mem _
      · exact h4 y hy
theorem ahead_none (t : Tr) : aheadO (some t) none = true := by
  rw [ahead_iff]
  left
  have := lvO_pos t
  show (lvO none).length < _
  rw [lvO_none]
  have : (lvO (some t)).length ≠ 0 := fun h => this (List.eq_nil_of_length_eq_zero h)
  simp only [List.length_nil]
  omega
theorem ins_filter {x : Option Tr} : ∀ {l : List (Option Tr)}, Srt l → (insG x l).filter Option.isSome = if x.isSome then insG x (l.filter Option.isSome) else l.filter Option.isSome
  | [], _ => by cases x <;> rfl
  | y :: r, h => by
    obtain ⟨h1, h2⟩ := List.pairwise_cons.1 h
    have ih := ins_filter (x := x) h2
    cases x with
    | none =>
      simp only [insG]
      split
      · simp
      · simp only [List.filter_cons]
        rw [ih]
        simp
    | some t =>
      simp only [Option.isSome_some, if_true] at ih ⊢
      cases y with
      | none =>
        have hr : r.filter Option.isSome = [] := by
          rw [List.filter_eq_nil_iff]
          intro z hz
          cases z with
          | none => simp
          | some u => have := h1 _ hz; rw [ahead_none u] at this; cases this
        simp only [insG, ahead_none t, if_true, List.filter_cons, Option.isSome_some, Option.isSome_none, Bool.false_eq_true, if_false, hr]
      | some u =>
        simp only [insG]
        split
        · rename_i ha
          simp [insG, ha]
        · rename_i ha
          simp only [List.filter_cons, Option.isSome_some, if_true, ih, insG, ha]
          rfl
theorem sortA_filter (xs : List (Option Tr)) (k : Nat) : k ≤ xs.length → (sortA (xs.take k)).filter Option.isSome = sortG (xs.take k) := by
  induction k with
  | zero => intro _; simp [sortA, sortG]
  | succ k ih =>
    intro hk
    rw [sortA_snoc xs k (by omega), sortG_snoc xs k (by omega), ins_filter (sortA_facts xs k (by omega)).1, ih (by omega)]
theorem graft_none (w : Option Tr) : graftO w none = w := by
  cases w with
  | none => rfl
  | some t => rfl
theorem fold_filter : ∀ (l : List (Option Tr)) (w : Option Tr), (l.filter Option.isSome).foldl graftO w = l.foldl graftO w
  | [], w => rfl
  | none :: l, w => by
    have e : (none :: l : List (Option Tr)).filter Option.isSome = l.filter Option.isSome := rfl
    rw [e, fold_filter l w]
    show _ = l.foldl graftO (graftO w none)
    rw [graft_none]
  | some t :: l, w => by
    have e : (some t :: l : List (Option Tr)).filter Option.isSome = some t :: l.filter Option.isSome := rfl
    rw [e, List.foldl_cons, List.foldl_cons, fold_filter l _]
theorem merge_sortA (xs : List (Option Tr)) : (sortA xs).foldl graftO none = mergeO xs := by
  have h := sortA_filter xs xs.length (Nat.le_refl _)
  rw [List.take_of_length_le (Nat.le_refl _)] at h
  unfold mergeO
  rw [← h, fold_filter]
/-- What comes on the way. -/
theorem sortA_way {xs : List (Option Tr)} (hn : xs.length ≤ 12) (hx : ∀ x ∈ xs, okT (spo x) = true ∧ htO x ≤ 8) (hd : (allO xs).Nodup) (hl : (allO xs).length ≤ 60) (k : Nat) (hk : k ≤ (sortA xs).length) :
    okT (spo (((sortA xs).take k).foldl graftO none)) = true ∧ htO (((sortA xs).take k).foldl graftO none) ≤ 20 := by
  obtain ⟨h1, h2, h3, h4⟩ := sortA_facts xs xs.length (Nat.le_refl _)
  rw [List.take_of_length_le (Nat.le_refl _)] at h1 h2 h3 h4
  obtain ⟨f1, -, -, -, f5, -⟩ := fold_facts 8 (sortA xs) k hk (by omega) (fun x hx' => hx x (h4 x hx')) (by omega) (h3.nodup_iff.2 hd) (by rw [h3.length_eq]; omega)
  exact ⟨f1, by omega⟩
/-- What the comparison of two trees answers. -/
def cmpM (a b c d : Int) : Int := if lessM a b c d then -1 else if lessM c d a b then 1 else 0
def cmpO (x y : Option Tr) : Int := if (lvO x).length ≠ (lvO y).length ∨ (lvO x).length = 0 then ((lvO y).length : Int) - (lvO x).length else cmpM (firstM (lvO x)).1 (firstM (lvO x)).2 (firstM (lvO y)).1 (firstM (lvO y)).2
theorem cmpM_neg (a b c d : Int) : decide (cmpM a b c d < 0) = lessM a b c d := by
  unfold cmpM
  cases h : lessM a b c d
  · cases lessM c d a b <;> rfl
  · rfl
theorem cmpO_neg (x y : Option Tr) : decide (cmpO x y < 0) = aheadO x y := by
  unfold cmpO aheadO
  by_cases h : (lvO x).length ≠ (lvO y).length ∨ (lvO x).length = 0
  · rw [if_pos h]
    rcases Nat.lt_or_ge (lvO y).length (lvO x).length with hlt | hge
    · rw [decide_eq_true hlt, decide_eq_true (by omega)]; rfl
    · rw [decide_eq_false (show ¬ (lvO y).length < (lvO x).length by omega), decide_eq_false (by omega)]
      rcases Nat.eq_or_lt_of_le hge with e | hlt
      · have h0 : (lvO x).length = 0 := by omega
        have hx0 : lvO x = [] := List.eq_nil_of_length_eq_zero h0
        have hy0 : lvO y = [] := List.eq_nil_of_length_eq_zero (by omega)
        rw [hx0, hy0]
        rfl
      · rw [decide_eq_false (by omega)]; rfl
  · rw [if_neg h]
    have he : (lvO x).length = (lvO y).length := by omega
    rw [cmpM_neg, decide_eq_false (by omega), decide_eq_true he]
    simp
theorem cmpO_bound (x y : Option Tr) (hx : (spo x).length ≤ 100000) (hy : (spo y).length ≤ 100000) : -1000000 ≤ cmpO x y ∧ cmpO x y ≤ 1000000 := by
  have h1 : (lvO x).length ≤ (spo x).length := lv_length_le _
  have h2 : (lvO y).length ≤ (spo y).length := lv_length_le _
  unfold cmpO cmpM
  split
  · omega
  · split
    · omega
    · split <;> omega

end Go.Proofs.Ytkmlnglmecjmeaa
