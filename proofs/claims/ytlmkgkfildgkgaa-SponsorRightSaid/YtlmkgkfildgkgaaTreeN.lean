import Derived.Test.YtlmkgkfildgkgaaMemB
/- Trees as lists of spots: parts and where they end, leaves, whether they may be, heights, bytes, and back. Plain: of no program. No condition but those named. -/
namespace Go.Proofs.Ytlmkgkfildgkgaa
open Go.RowKit
set_option linter.unusedVariables false

/-- A spot: whether it is a leaf, and its member. -/
abbrev Sp := Bool × Int × Int
/-- From a place on, so many parts wanted: the place behind them, or -1. -/
def fin : Nat → Nat → List Sp → Int
  | _, _, [] => -1
  | o, i, s :: l => if (if s.1 then o - 1 else o + 1) = 0 then ((i + 1 : Nat) : Int) else fin (if s.1 then o - 1 else o + 1) (i + 1) l
/-- Where the part that begins there ends. -/
def endI (l : List Sp) (p : Int) : Int := if 0 ≤ p then fin 1 p.toNat (l.drop p.toNat) else -1
def lv (l : List Sp) : List (Int × Int) := (l.filter (fun s => s.1)).map (fun s => s.2)
def noWho (s : Sp) : Bool := s.1 || (s.2.1 == 0 && s.2.2 == 0)
def okAt (m : List (Int × Int)) (i : Nat) : Bool := okM (m.getD i (0, 0)).1 (m.getD i (0, 0)).2 && !decide (m.getD i (0, 0) ∈ m.take i)
def once (m : List (Int × Int)) : Bool := (List.range m.length).all (okAt m)
/-- It may be a tree. -/
def okT (l : List Sp) : Bool := l.isEmpty || (decide (l.length ≤ 128) && (endI l 0 == (l.length : Int)) && l.all noWho && once (lv l))

inductive Tr where
  | leaf (a b : Int)
  | inner (a b : Int) (l r : Tr)
def flat : Tr → List Sp
  | .leaf a b => [(true, a, b)]
  | .inner a b l r => (false, a, b) :: (flat l ++ flat r)
def ht : Tr → Int
  | .leaf _ _ => 0
  | .inner _ _ l r => 1 + max (ht l) (ht r)
theorem flat_pos (t : Tr) : 0 < (flat t).length := by cases t <;> simp [flat]
theorem flat_ne (t : Tr) : flat t ≠ [] := by cases t <;> simp [flat]

theorem fin_flat (t : Tr) : ∀ (o i : Nat) (r : List Sp), fin (o + 1) i (flat t ++ r) = if o = 0 then ((i + (flat t).length : Nat) : Int) else fin o (i + (flat t).length) r := by
  induction t with
  | leaf a b =>
    intro o i r
    simp [flat, fin]
  | inner a b l r ihl ihr =>
    intro o i rest
    simp only [flat, List.cons_append, List.append_assoc]
    rw [fin]
    simp only [Bool.false_eq_true, if_false]
    rw [if_neg (by omega), ihl (o + 1) (i + 1), if_neg (by omega), ihr o]
    simp only [List.length_cons, List.length_append]
    by_cases h : o = 0
    · rw [if_pos h, if_pos h]; congr 1; omega
    · rw [if_neg h, if_neg h]; congr 1; omega
theorem fin_parse : ∀ (n : Nat) (l : List Sp), l.length ≤ n → ∀ o i, fin (o + 1) i l ≠ -1 → ∃ t r, l = flat t ++ r := by
  intro n
  induction n with
  | zero =>
    intro l hl o i h
    have : l = [] := List.eq_nil_of_length_eq_zero (by omega)
    subst this
    exact absurd rfl h
  | succ n ih =>
    intro l hl o i h
    match l, hl, h with
    | [], _, h => exact absurd rfl h
    | (true, a, b) :: l, _, _ => exact ⟨.leaf a b, l, rfl⟩
    | (false, a, b) :: l, hl, h =>
      rw [fin] at h
      simp only [Bool.false_eq_true, if_false] at h
      rw [if_neg (by omega)] at h
      simp only [List.length_cons] at hl
      obtain ⟨t1, r1, rfl⟩ := ih l (by omega) _ _ h
      rw [fin_flat, if_neg (by omega)] at h
      simp only [List.length_append] at hl
      obtain ⟨t2, r2, rfl⟩ := ih r1 (by omega) _ _ h
      exact ⟨.inner a b t1 t2, r2, by simp [flat]⟩
theorem endI_part (l : List Sp) (p : Nat) (t : Tr) (r : List Sp) (h : l.drop p = flat t ++ r) : endI l (p : Int) = ((p + (flat t).length : Nat) : Int) := by
  unfold endI
  rw [if_pos (by omega)]
  simp only [Int.toNat_natCast]
  rw [h, fin_flat t 0]
  rfl
theorem endI_flat (t : Tr) : endI (flat t) 0 = ((flat t).length : Int) := by
  have := endI_part (flat t) 0 t [] (by simp)
  simpa using this
theorem whole_of {l : List Sp} (hp : l ≠ []) (h : endI l 0 = (l.length : Int)) : ∃ t, l = flat t := by
  have h1 : fin 1 0 l = (l.length : Int) := by simpa [endI] using h
  obtain ⟨t, r, rfl⟩ := fin_parse l.length l (Nat.le_refl _) 0 0 (by rw [h1]; omega)
  rw [fin_flat, if_pos rfl] at h1
  simp only [List.length_append] at h1
  have : r = [] := List.eq_nil_of_length_eq_zero (by omega)
  exact ⟨t, by rw [this, List.append_nil]⟩

theorem lv_append (a b : List Sp) : lv (a ++ b) = lv a ++ lv b := by simp [lv]
theorem lv_length_le (l : List Sp) : (lv l).length ≤ l.length := by
  unfold lv
  rw [List.length_map]
  exact List.length_filter_le _ _
theorem flat_counts (t : Tr) : (flat t).length + 1 = 2 * (lv (flat t)).length := by
  induction t with
  | leaf a b => rfl
  | inner a b l r ihl ihr =>
    have e : lv (flat (.inner a b l r)) = lv (flat l) ++ lv (flat r) := by
      rw [← lv_append]; rfl
    rw [e]
    simp only [flat, List.length_cons, List.length_append]
    omega
theorem ht_nonneg (t : Tr) : 0 ≤ ht t := by
  induction t with
  | leaf a b => exact Int.le_refl _
  | inner a b l r ihl ihr => simp only [ht]; omega
theorem ht_lt (t : Tr) : ht t < ((lv (flat t)).length : Int) := by
  induction t with
  | leaf a b => simp [ht, lv, flat]
  | inner a b l r ihl ihr =>
    have e : lv (flat (.inner a b l r)) = lv (flat l) ++ lv (flat r) := by
      rw [← lv_append]; rfl
    rw [e]
    simp only [ht, List.length_append]
    have h1 := flat_counts l
    have h2 := flat_counts r
    have h3 := flat_pos l
    have h4 := flat_pos r
    omega
theorem ht_le (t : Tr) : ht t < ((flat t).length : Int) := by
  have h1 := ht_lt t
  have h2 := lv_length_le (flat t)
  omega
theorem flat_last (t : Tr) : ∃ (xs : List Sp) (a b : Int), flat t = xs ++ [(true, a, b)] := by
  induction t with
  | leaf a b => exact ⟨[], a, b, rfl⟩
  | inner a b l r ihl ihr =>
    obtain ⟨xs, c, d, e⟩ := ihr
    exact ⟨(false, a, b) :: (flat l ++ xs), c, d, by simp [flat, e]⟩
/-- Wherever one looks in a tree a part of it begins. -/
theorem flat_drop (t : Tr) : ∀ i, i < (flat t).length → ∃ u r, (flat t).drop i = flat u ++ r := by
  induction t with
  | leaf a b =>
    intro i hi
    have : i = 0 := by simp [flat] at hi; omega
    subst this
    exact ⟨.leaf a b, [], by simp⟩
  | inner a b l r ihl ihr =>
    intro i hi
    cases i with
    | zero => exact ⟨.inner a b l r, [], by simp⟩
    | succ j =>
      simp only [flat, List.length_cons, List.length_append] at hi
      simp only [flat, List.drop_succ_cons]
      by_cases hj : j < (flat l).length
      · obtain ⟨u, s, e⟩ := ihl j hj
        rw [List.drop_append_of_le_length (by omega), e]
        exact ⟨u, s ++ flat r, by simp⟩
      · obtain ⟨u, s, e⟩ := ihr (j - (flat l).length) (by omega)
        refine ⟨u, s, ?_⟩
        rw [List.drop_append, List.drop_of_length_le (by omega), List.nil_append, e]

theorem okT_nil : okT [] = true := rfl
theorem okT_flat {l : List Sp} (h : okT l = true) (hp : l ≠ []) : ∃ t, l = flat t := by
  unfold okT at h
  simp only [Bool.or_eq_true, List.isEmpty_iff, Bool.and_eq_true, decide_eq_true_eq, beq_iff_eq] at h
  rcases h with h | h
  · exact absurd h hp
  · exact whole_of hp h.1.1.2
theorem okT_parts {l : List Sp} (h : okT l = true) : l.length ≤ 128 ∧ l.all noWho = true ∧ once (lv l) = true := by
  unfold okT at h
  simp only [Bool.or_eq_true, List.isEmpty_iff, Bool.and_eq_true, decide_eq_true_eq, beq_iff_eq] at h
  rcases h with h | h
  · subst h; exact ⟨Nat.zero_le _, rfl, rfl⟩
  · exact ⟨h.1.1.1, h.1.2, h.2⟩
/-- A tree that may be has at most 64 leaves. -/
theorem okT_few {l : List Sp} (h : okT l = true) : (lv l).length ≤ 64 := by
  by_cases hp : l = []
  · subst hp; exact Nat.zero_le _
  · obtain ⟨t, rfl⟩ := okT_flat h hp
    have h1 := flat_counts t
    have h2 := (okT_parts h).1
    omega
theorem once_ok {m : List (Int × Int)} (h : once m = true) {x : Int × Int} (hx : x ∈ m) : okM x.1 x.2 = true := by
  obtain ⟨i, hi, rfl⟩ := List.getElem_of_mem hx
  unfold once at h
  rw [List.all_eq_true] at h
  have := h i (by simpa using hi)
  unfold okAt at this
  simp only [Bool.and_eq_true] at this
  have e : m.getD i (0, 0) = m[i] := by simp [hi]
  rw [e] at this
  exact this.1
theorem mem_lv {l : List Sp} {s : Sp} (h : s ∈ l) (hs : s.1 = true) : s.2 ∈ lv l := by
  unfold lv
  exact List.mem_map.2 ⟨s, List.mem_filter.2 ⟨h, hs⟩, rfl⟩
/-- Of a tree that may be each spot is a member's leaf, or nobody's. -/
def okS (s : Sp) : Bool := (s.1 && okM s.2.1 s.2.2) || (!s.1 && s.2.1 == 0 && s.2.2 == 0)
theorem okT_each {l : List Sp} (h : okT l = true) {s : Sp} (hs : s ∈ l) : okS s = true := by
  obtain ⟨_, h1, h2⟩ := okT_parts h
  obtain ⟨f, a, b⟩ := s
  cases f with
  | true =>
    have := once_ok h2 (mem_lv hs rfl)
    simp [okS, this]
  | false =>
    have := (List.all_eq_true.1 h1) _ hs
    simpa [okS, noWho] using this

/-- A spot's bytes; a tree's. -/
def layS (s : Sp) : List UInt8 := if s.1 then layN 1 ++ layM s.2.1 s.2.2 else layN 0
def laySs (l : List Sp) : List UInt8 := l.flatMap layS
def layTr (l : List Sp) : List UInt8 := layN (l.length : Int) ++ laySs l
theorem laySs_snoc (l : List Sp) (s : Sp) : laySs (l ++ [s]) = laySs l ++ layS s := by simp [laySs]
theorem layS_le (s : Sp) : (layS s).length ≤ 12 := by
  unfold layS
  split
  · simp [layN_length, layM_length]
  · simp [layN_length]
theorem laySs_le (l : List Sp) : (laySs l).length ≤ 12 * l.length := by
  induction l with
  | nil => simp [laySs]
  | cons s l ih =>
    have := layS_le s
    simp only [laySs, List.flatMap_cons, List.length_append, List.length_cons] at *
    omega
theorem layTr_le (l : List Sp) : (layTr l).length ≤ 4 + 12 * l.length := by
  have := laySs_le l
  simp only [layTr, List.length_append, layN_length]
  omega

/-- What the next spot is read as, and what is left. -/
def spSt (st : Option (List UInt8)) : Option (List UInt8) := if numOf st 1 = 0 then numSt st 1 else memSt (numSt st 1)
def spOf (st : Option (List UInt8)) : Sp := if numOf st 1 = 0 then (false, 0, 0) else (true, memOf (numSt st 1))
def rdSt : Nat → Option (List UInt8) → Option (List UInt8)
  | 0, st => st
  | k + 1, st => rdSt k (spSt st)
def rdOf : Nat → Option (List UInt8) → List Sp
  | 0, _ => []
  | k + 1, st => spOf st :: rdOf k (spSt st)
theorem rdSt_succ (k : Nat) : ∀ st, rdSt (k + 1) st = spSt (rdSt k st) := by
  induction k with
  | zero => intro st; rfl
  | succ k ih => intro st; rw [rdSt, ih]; rfl
theorem rdOf_succ (k : Nat) : ∀ st, rdOf (k + 1) st = rdOf k st ++ [spOf (rdSt k st)] := by
  induction k with
  | zero => intro st; rfl
  | succ k ih => intro st; rw [rdOf, ih]; rfl
theorem rdOf_length (k : Nat) : ∀ st, (rdOf k st).length = k := by
  induction k with
  | zero => intro st; rfl
  | succ k ih => intro st; simp [rdOf, ih]
theorem numOf_none (m : Int) : numOf none m = 0 := rfl
theorem numSt_none (m : Int) : numSt none m = none := rfl
theorem spSt_none : spSt none = none := rfl
theorem rdSt_none (k : Nat) : rdSt k none = none := by
  induction k with
  | zero => rfl
  | succ k ih => rw [rdSt, spSt_none, ih]
theorem rdSt_bad {k n : Nat} (h : k ≤ n) {st : Option (List UInt8)} (hb : rdSt k st = none) : rdSt n st = none := by
  induction h with
  | refl => exact hb
  | step h ih => rw [rdSt_succ, ih]; rfl
def treeN (st : Option (List UInt8)) : Nat := (numOf st 128).toNat
def treeOk (st : Option (List UInt8)) : Bool := (rdSt (treeN st) (numSt st 128)).isSome && okT (rdOf (treeN st) (numSt st 128))
def treeSt (st : Option (List UInt8)) : Option (List UInt8) := if treeOk st then rdSt (treeN st) (numSt st 128) else none
def treeOf (st : Option (List UInt8)) : List Sp := if treeOk st then rdOf (treeN st) (numSt st 128) else []

theorem hasN_fields {l : List UInt8} {m : Int} (h : hasN l false m) : 4 ≤ l.length ∧ (nb4 l : Int) ≤ m := by
  obtain ⟨_, h1, _, h2⟩ := h
  exact ⟨h1, h2⟩
theorem numOf_range (st : Option (List UInt8)) (m : Int) (hm : 0 ≤ m) : 0 ≤ numOf st m ∧ numOf st m ≤ m := by
  cases st with
  | none => exact ⟨Int.le_refl _, hm⟩
  | some l =>
    unfold numOf
    by_cases h : hasN l false m
    · simp only [h, if_true]
      exact ⟨by omega, (hasN_fields h).2⟩
    · simp only [h, if_false]
      exact ⟨Int.le_refl _, hm⟩

/-- There and back. -/
theorem sp_back {s : Sp} (h : okS s = true) (r : List UInt8) : spSt (some (layS s ++ r)) = some r ∧ spOf (some (layS s ++ r)) = s := by
  obtain ⟨f, a, b⟩ := s
  cases f with
  | true =>
    have hk : okM a b = true := by simpa [okS] using h
    obtain ⟨m1, m2⟩ := mem_back hk r
    have e0 : numOf (some (layS (true, a, b) ++ r)) 1 = 1 := by
      show numOf (some ((layN 1 ++ layM a b) ++ r)) 1 = 1
      rw [List.append_assoc, numOf_lay]; rfl
    have e1 : numSt (some (layS (true, a, b) ++ r)) 1 = some (layM a b ++ r) := by
      show numSt (some ((layN 1 ++ layM a b) ++ r)) 1 = _
      rw [List.append_assoc, numSt_lay]; rfl
    unfold spSt spOf
    rw [e0, e1, m1, m2]
    exact ⟨rfl, rfl⟩
  | false =>
    have hk : a = 0 ∧ b = 0 := by simpa [okS] using h
    obtain ⟨rfl, rfl⟩ := hk
    have e0 : numOf (some (layS (false, 0, 0) ++ r)) 1 = 0 := by
      show numOf (some (layN 0 ++ r)) 1 = 0
      rw [numOf_lay]; rfl
    have e1 : numSt (some (layS (false, 0, 0) ++ r)) 1 = some r := by
      show numSt (some (layN 0 ++ r)) 1 = _
      rw [numSt_lay]; rfl
    unfold spSt spOf
    rw [e0, e1]
    exact ⟨rfl, rfl⟩
theorem rd_back : ∀ (l : List Sp) (h : ∀ s ∈ l, okS s = true) (r : List UInt8), rdSt l.length (some (laySs l ++ r)) = some r ∧ rdOf l.length (some (laySs l ++ r)) = l
  | [], _, r => ⟨rfl, rfl⟩
  | s :: l, h, r => by
    obtain ⟨h1, h2⟩ := sp_back (h s (by simp)) (laySs l ++ r)
    obtain ⟨h3, h4⟩ := rd_back l (fun x hx => h x (by simp [hx])) r
    have e : laySs (s :: l) ++ r = layS s ++ (laySs l ++ r) := by simp [laySs]
    rw [e, List.length_cons]
    simp only [rdSt, rdOf]
    rw [h1, h2, h3, h4]
    exact ⟨rfl, rfl⟩
theorem tree_back {l : List Sp} (h : okT l = true) (r : List UInt8) : treeSt (some (layTr l ++ r)) = some r ∧ treeOf (some (layTr l ++ r)) = l := by
  obtain ⟨hn, _, _⟩ := okT_parts h
  have el : ((low31 (l.length : Int) : Nat) : Int) = (l.length : Int) := by rw [low31_nat _ (by omega)]
  have e0 : numOf (some (layTr l ++ r)) 128 = (l.length : Int) := by
    rw [layTr, List.append_assoc, numOf_lay, el, if_pos (by omega)]
  have e1 : numSt (some (layTr l ++ r)) 128 = some (laySs l ++ r) := by
    rw [layTr, List.append_assoc, numSt_lay, el, if_pos (by omega)]
  have en : treeN (some (layTr l ++ r)) = l.length := by rw [treeN, e0]; rfl
  obtain ⟨h1, h2⟩ := rd_back l (fun s hs => okT_each h hs) r
  have ek : treeOk (some (layTr l ++ r)) = true := by rw [treeOk, en, e1, h1, h2, h]; rfl
  rw [treeSt, treeOf, ek, en, e1, h1, h2]
  exact ⟨rfl, rfl⟩
theorem layTr_inj {a b : List Sp} (ha : okT a = true) (hb : okT b = true) (h : layTr a = layTr b) : a = b := by
  have h1 := (tree_back ha []).2
  rw [h, (tree_back hb []).2] at h1
  exact h1.symm

/-- What was read is what its bytes say. -/
theorem be4_nb4 : ∀ (l : List UInt8), 4 ≤ l.length → be4 (nb4 l) ++ l.drop 4 = l
  | a :: b :: c :: d :: r, _ => by
    have ha := UInt8.toNat_lt a
    have hb := UInt8.toNat_lt b
    have hc := UInt8.toNat_lt c
    have hd := UInt8.toNat_lt d
    have e : nb4 (a :: b :: c :: d :: r) = a.toNat * 16777216 + b.toNat * 65536 + c.toNat * 256 + d.toNat := rfl
    rw [e]
    have g : ∀ (x : UInt8) (n : Nat), n % 256 = x.toNat → UInt8.ofNat n = x := fun x n h => by
      apply UInt8.toNat_inj.1
      rw [UInt8.toNat_ofNat']
      exact h
    show [_, _, _, _] ++ r = _
    rw [g a _ (by omega), g b _ (by omega), g c _ (by omega), g d _ (by omega)]
    rfl
theorem num_inv {st : Option (List UInt8)} {m : Int} {r : List UInt8} (hm : m ≤ 2147483647) (h : numSt st m = some r) : st = some (layN (numOf st m) ++ r) := by
  cases st with
  | none => cases h
  | some l =>
    unfold numSt at h
    by_cases hn : hasN l false m
    · simp only [hn, if_true, Option.some.injEq] at h
      obtain ⟨h4, hle⟩ := hasN_fields hn
      have e : numOf (some l) m = (nb4 l : Int) := by simp only [numOf, hn, if_true]
      rw [e, layN, low31_nat _ (by omega), ← h, be4_nb4 l h4]
    · simp only [hn, if_false] at h
      cases h
theorem mem_inv {st : Option (List UInt8)} {r : List UInt8} (h : memSt st = some r) : st = some (layM (memOf st).1 (memOf st).2 ++ r) := by
  have e : memOf st = (numOf st 7, numOf (numSt st 7) 2147483647) := by
    unfold memOf
    rw [h]
    rfl
  unfold memSt at h
  cases hk : okM (numOf st 7) (numOf (numSt st 7) 2147483647) with
  | false => rw [hk] at h; cases h
  | true =>
    rw [hk, if_pos rfl] at h
    have h2 := num_inv (by omega) h
    have h3 := num_inv (m := 7) (by omega) h2
    rw [e]
    simp only [layM, List.append_assoc]
    exact h3
theorem sp_inv {st : Option (List UInt8)} {r : List UInt8} (h : spSt st = some r) : st = some (layS (spOf st) ++ r) := by
  unfold spSt at h
  unfold spOf
  by_cases hz : numOf st 1 = 0
  · rw [if_pos hz] at h
    rw [if_pos hz]
    have := num_inv (by omega) h
    rw [hz] at this
    exact this
  · rw [if_neg hz] at h
    rw [if_neg hz]
    have h1 : numOf st 1 = 1 := by
      have := numOf_range st 1 (by omega)
      omega
    have h2 := mem_inv h
    have h3 := num_inv (m := 1) (by omega) h2
    rw [h1] at h3
    show st = some ((layN 1 ++ layM (memOf (numSt st 1)).1 (memOf (numSt st 1)).2) ++ r)
    rw [List.append_assoc]
    exact h3
theorem rd_inv : ∀ (k : Nat) (st : Option (List UInt8)) (r : List UInt8), rdSt k st = some r → st = some (laySs (rdOf k st) ++ r)
  | 0, st, r, h => h
  | k + 1, st, r, h => by
    have h1 := rd_inv k (spSt st) r h
    have h2 := sp_inv h1
    show st = some (laySs (spOf st :: rdOf k (spSt st)) ++ r)
    have e : laySs (spOf st :: rdOf k (spSt st)) ++ r = layS (spOf st) ++ (laySs (rdOf k (spSt st)) ++ r) := by simp [laySs]
    rw [e]
    exact h2
theorem tree_inv {st : Option (List UInt8)} {r : List UInt8} (h : treeSt st = some r) : st = some (layTr (treeOf st) ++ r) ∧ okT (treeOf st) = true := by
  unfold treeSt at h
  cases hk : treeOk st with
  | false => rw [hk] at h; cases h
  | true =>
    rw [hk, if_pos rfl] at h
    have e : treeOf st = rdOf (treeN st) (numSt st 128) := by rw [treeOf, hk, if_pos rfl]
    have h1 := rd_inv _ _ _ h
    have h2 := num_inv (by omega) h1
    have h0 := numOf_range st 128 (by omega)
    rw [e]
    constructor
    · rw [layTr, rdOf_length, List.append_assoc]
      have : ((treeN st : Nat) : Int) = numOf st 128 := by unfold treeN; omega
      rw [this]
      exact h2
    · unfold treeOk at hk
      rw [Bool.and_eq_true] at hk
      exact hk.2
theorem tree_none {st : Option (List UInt8)} (h : treeSt st = none) : treeOf st = [] := by
  unfold treeSt at h
  unfold treeOf
  cases hk : treeOk st with
  | false => rfl
  | true =>
    rw [hk, if_pos rfl] at h
    unfold treeOk at hk
    rw [h] at hk
    cases hk

end Go.Proofs.Ytlmkgkfildgkgaa
