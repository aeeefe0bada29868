import Derived.Test.YtjnefacdindamaaGreatDoorPruN
import Derived.Test.YtjnefacdindamaaGreatDoorNumA
/- What a tree's members' secrets come to, and how a tree is put into words, plainly. Of no program. No condition but those named. -/
namespace Go.Proofs.YtjnefacdindamaaGreatDoor
open Go.RowKit Num
set_option linter.unusedVariables false
set_option maxRecDepth 100000

/-- A secret as it is told: whose, its text, when. -/
abbrev Dr := (Int × Int) × List UInt8 × Int
/-- The first one's of a member. -/
def secL : List Dr → Int × Int → List UInt8
  | [], _ => []
  | d :: ds, m => if d.1 = m then d.2.1 else secL ds m
theorem secL_append : ∀ (a b : List Dr) (m : Int × Int), (∃ d ∈ a, d.1 = m) → secL (a ++ b) m = secL a m
  | d :: a, b, m, h => by
    simp only [List.cons_append, secL]
    split
    · rfl
    · rename_i hn
      refine secL_append a b m ?_
      obtain ⟨e, he, h2⟩ := h
      rcases List.mem_cons.1 he with rfl | he
      · exact absurd h2 hn
      · exact ⟨e, he, h2⟩
  | [], b, m, h => by obtain ⟨e, he, _⟩ := h; cases he
theorem secL_or (ds : List Dr) (m : Int × Int) : secL ds m = [] ∨ ∃ d ∈ ds, d.1 = m ∧ secL ds m = d.2.1 := by
  induction ds with
  | nil => exact Or.inl rfl
  | cons d ds ih =>
    simp only [secL]
    by_cases h : d.1 = m
    · rw [if_pos h]; exact Or.inr ⟨d, by simp, h, rfl⟩
    · rw [if_neg h]
      rcases ih with h2 | ⟨e, he, h3, h4⟩
      · exact Or.inl h2
      · exact Or.inr ⟨e, List.mem_cons_of_mem _ he, h3, h4⟩
/-- A blinded key; what one and a secret agree on. -/
def bliL (g : Int) (s : List UInt8) : List UInt8 := byts (powN g 2 (bval s))
def agrL (g : Int) (b s : List UInt8) : List UInt8 := byts (redN g (powN g (bval b) (bval s)))
theorem bli_len (g : Int) (s : List UInt8) : (bliL g s).length ≤ 192 := by unfold bliL; rw [byts_length]; exact nbyt_24 (powN_lt _ _ _)
theorem agr_len (g : Int) (b s : List UInt8) : (agrL g b s).length ≤ 192 := by unfold agrL; rw [byts_length]; exact nbyt_24 (redN_lt _ _)
/-- From either side. -/
theorem agr_sides (g : Int) (x y : List UInt8) : agrL g (bliL g y) x = agrL g (bliL g x) y := by
  unfold agrL bliL
  rw [bval_bytes, bval_bytes, pow_two]
theorem agr_isS {g : Int} (b s : List UInt8) (h : P g ≠ 0) : isS g (agrL g b s) = true := isS_red _ h
theorem isS_some {g : Int} {s : List UInt8} (h : isS g s = true) : s ≠ [] := by
  rintro rfl
  have := (isS_iff.1 h).2.2.2.1
  have e : bval [] = 0 := rfl
  omega
theorem agr_none {g : Int} (b s : List UInt8) (h : P g = 0) : agrL g b s = [] := by unfold agrL; rw [redN_no _ h]; rfl
/-- Two halves' keys as one. -/
def joinK (g : Int) (x y : List UInt8) : List UInt8 := if x = [] ∨ y = [] then [] else agrL g (bliL g y) x
def keyT (g : Int) (ds : List Dr) : Tr → List UInt8
  | .leaf a b => secL ds (a, b)
  | .inner _ _ l r => joinK g (keyT g ds l) (keyT g ds r)
def keyO (g : Int) (ds : List Dr) : Option Tr → List UInt8
  | none => []
  | some t => keyT g ds t
theorem joinK_len (g : Int) (x y : List UInt8) : (joinK g x y).length ≤ 192 := by
  unfold joinK
  split
  · exact Nat.zero_le _
  · exact agr_len _ _ _
theorem keyT_len (g : Int) {ds : List Dr} (h : ∀ d ∈ ds, d.2.1.length ≤ 4) : ∀ t, (keyT g ds t).length ≤ 192
  | .leaf a b => by
    rcases secL_or ds (a, b) with h1 | ⟨d, hd, -, h1⟩
    · simp only [keyT, h1]; exact Nat.zero_le _
    · simp only [keyT, h1]; have := h d hd; omega
  | .inner _ _ l r => joinK_len _ _ _
theorem keyO_len (g : Int) {ds : List Dr} (h : ∀ d ∈ ds, d.2.1.length ≤ 4) (x : Option Tr) : (keyO g ds x).length ≤ 192 := by
  cases x with
  | none => exact Nat.zero_le _
  | some t => exact keyT_len g h t
theorem secL_len {ds : List Dr} (h : ∀ d ∈ ds, d.2.1.length ≤ 4) (m : Int × Int) : (secL ds m).length ≤ 192 := keyT_len 0 h (.leaf m.1 m.2)
/-- A key is a secret, if all that were drawn are. -/
theorem keyT_isS {g : Int} {ds : List Dr} (h : ∀ d ∈ ds, isS g d.2.1 = true) (hP : P g ≠ 0) : ∀ t, keyT g ds t ≠ [] → isS g (keyT g ds t) = true
  | .leaf a b, hn => by
    rcases secL_or ds (a, b) with h1 | ⟨d, hd, -, h1⟩
    · exact absurd h1 hn
    · simp only [keyT, h1]; exact h d hd
  | .inner _ _ l r, hn => by
    simp only [keyT, joinK] at hn ⊢
    split
    · rename_i h2; rw [if_pos h2] at hn; exact absurd rfl hn
    · exact agr_isS _ _ hP
/-- It hangs on its own members' secrets alone. -/
theorem keyT_congr (g : Int) {ds es : List Dr} : ∀ t, (∀ m ∈ lv (flat t), secL ds m = secL es m) → keyT g ds t = keyT g es t
  | .leaf a b, h => h (a, b) (by simp [flat, lv])
  | .inner _ _ l r, h => by
    have e : lv (flat (.inner 0 0 l r)) = lv (flat l) ++ lv (flat r) := by rw [← lv_append]; rfl
    have h' : ∀ m ∈ lv (flat l) ++ lv (flat r), secL ds m = secL es m := fun m hm => h m (by show m ∈ lv (flat (.inner 0 0 l r)); rw [e]; exact hm)
    simp only [keyT]
    rw [keyT_congr g l fun m hm => h' m (List.mem_append_left _ hm), keyT_congr g r fun m hm => h' m (List.mem_append_right _ hm)]
/-- Without one there is none; with all there is one, of a group. -/
theorem keyT_missing (g : Int) {ds : List Dr} : ∀ t, (∃ m ∈ lv (flat t), secL ds m = []) → keyT g ds t = []
  | .leaf a b, h => by
    obtain ⟨m, hm, h2⟩ := h
    have : m = (a, b) := by simpa [flat, lv] using hm
    subst this
    exact h2
  | .inner _ _ l r, h => by
    have e : lv (flat (.inner 0 0 l r)) = lv (flat l) ++ lv (flat r) := by rw [← lv_append]; rfl
    obtain ⟨m, hm, h2⟩ := h
    replace hm : m ∈ lv (flat (.inner 0 0 l r)) := hm
    rw [e] at hm
    simp only [keyT, joinK]
    rcases List.mem_append.1 hm with hm | hm
    · rw [if_pos (Or.inl (keyT_missing g l ⟨m, hm, h2⟩))]
    · rw [if_pos (Or.inr (keyT_missing g r ⟨m, hm, h2⟩))]
theorem keyT_all {g : Int} (hP : P g ≠ 0) {ds : List Dr} : ∀ t, (∀ m ∈ lv (flat t), secL ds m ≠ []) → keyT g ds t ≠ []
  | .leaf a b, h => h (a, b) (by simp [flat, lv])
  | .inner _ _ l r, h => by
    have e : lv (flat (.inner 0 0 l r)) = lv (flat l) ++ lv (flat r) := by rw [← lv_append]; rfl
    have h' : ∀ m ∈ lv (flat l) ++ lv (flat r), secL ds m ≠ [] := fun m hm => h m (by show m ∈ lv (flat (.inner 0 0 l r)); rw [e]; exact hm)
    simp only [keyT, joinK]
    rw [if_neg]
    · exact isS_some (agr_isS _ _ hP)
    · rintro (h1 | h1)
      · exact keyT_all hP l (fun m hm => h' m (List.mem_append_left _ hm)) h1
      · exact keyT_all hP r (fun m hm => h' m (List.mem_append_right _ hm)) h1
theorem secL_four {ds : List Dr} (h : ∀ d ∈ ds, d.2.1.length ≤ 4) (m : Int × Int) : (secL ds m).length ≤ 4 := by
  rcases secL_or ds m with h1 | ⟨d, hd, -, h1⟩
  · rw [h1]; exact Nat.zero_le _
  · rw [h1]; exact h d hd
theorem ht_len : ∀ t, 2 * ht t + 1 ≤ ((flat t).length : Int)
  | .leaf a b => by simp [ht, flat]
  | .inner a b l r => by
    have h1 := ht_len l
    have h2 := ht_len r
    have h3 := ht_nonneg l
    have h4 := ht_nonneg r
    simp only [ht, flat, List.length_cons, List.length_append]
    omega
theorem ht_small {x : Option Tr} (h : (spo x).length ≤ 40) : htO x ≤ 60 := by
  cases x with
  | none => show (-1 : Int) ≤ 60; omega
  | some t =>
    have h1 := ht_len t
    have h2 : (flat t).length ≤ 40 := h
    show ht t ≤ 60
    omega
/-- A part of a tree that may be, may be. -/
theorem okT_sub {t u : Tr} {p : List Bool} {o : Nat} (h : okT (spo (some t)) = true) (hs : sub t p = some (o, u)) : okT (spo (some u)) = true := by
  obtain ⟨h1, h2, h3⟩ := okT_parts h
  obtain ⟨a, r, e, -⟩ := sub_drop t p o u hs
  have h1' : (flat t).length ≤ 128 := h1
  have h2' : (flat t).all noWho = true := h2
  have h3' : once (lv (flat t)) = true := h3
  rw [e] at h1' h2' h3'
  simp only [List.length_append] at h1'
  simp only [List.all_append, Bool.and_eq_true] at h2'
  rw [lv_append, lv_append] at h3'
  have h4 := (once_iff _).1 h3'
  refine okT_of (by show (flat u).length ≤ 128; omega) h2'.2.1 ((once_iff _).2 ⟨fun m hm => h4.1 m (by simp [show m ∈ lv (flat u) from hm]), ?_⟩)
  exact (List.nodup_append.1 (List.nodup_append.1 h4.2).2.1).1
/-- The members' own secrets, in the tree's order. -/
def ownD (ds : List Dr) (ms : List (Int × Int)) : List Dr := ms.map fun m => (m, secL ds m, 0)
theorem ownD_sec (ds : List Dr) : ∀ (ms : List (Int × Int)) (m : Int × Int), m ∈ ms → secL (ownD ds ms) m = secL ds m
  | n :: ms, m, h => by
    simp only [ownD, List.map_cons, secL]
    by_cases hn : n = m
    · rw [if_pos hn, hn]
    · rw [if_neg hn]
      rcases List.mem_cons.1 h with rfl | h
      · exact absurd rfl hn
      · exact ownD_sec ds ms m h
  | [], m, h => by cases h
theorem own_key (g : Int) (ds more : List Dr) (t : Tr) : keyT g (ownD ds (lv (flat t))) t = keyT g ds t ∧ keyT g (ownD ds (lv (flat t)) ++ more) t = keyT g ds t := by
  refine ⟨keyT_congr g t fun m hm => ownD_sec ds _ m hm, keyT_congr g t fun m hm => ?_⟩
  rw [secL_append (ownD ds (lv (flat t))) more m ⟨(m, secL ds m, 0), List.mem_map.2 ⟨m, hm, rfl⟩, rfl⟩]
  exact ownD_sec ds _ m hm

/-! ### Words -/
def digN (n : Nat) : List UInt8 := if h : n < 10 then [UInt8.ofNat (48 + n)] else digN (n / 10) ++ [UInt8.ofNat (48 + n % 10)]
termination_by n
decreasing_by omega
theorem digN_low {n : Nat} (h : n < 10) : digN n = [UInt8.ofNat (48 + n)] := by rw [digN, dif_pos h]
theorem digN_high {n : Nat} (h : 10 ≤ n) : digN n = digN (n / 10) ++ [UInt8.ofNat (48 + n % 10)] := by rw [digN, dif_neg (by omega)]
/-- Is a byte a digit? -/
def isD (b : UInt8) : Bool := decide (48 ≤ b.toNat) && decide (b.toNat ≤ 57)
theorem digit_to {k : Nat} (h : k < 10) : (UInt8.ofNat (48 + k)).toNat = 48 + k := by
  rw [UInt8.toNat_ofNat']
  omega
theorem digN_digits (n : Nat) : (digN n).all isD = true ∧ digN n ≠ [] := by
  induction n using Nat.strongRecOn with
  | _ n ih =>
    by_cases h : n < 10
    · rw [digN_low h]
      have := digit_to h
      simp [isD]
      omega
    · rw [digN_high (by omega)]
      have h2 := digit_to (Nat.mod_lt n (show 10 > 0 by omega))
      have h3 := (ih (n / 10) (by omega)).1
      refine ⟨?_, by simp⟩
      rw [List.all_append, h3]
      simp [isD]
      omega
def valD (l : List UInt8) : Nat := l.foldl (fun a b => 10 * a + (b.toNat - 48)) 0
theorem valD_dig (n : Nat) : valD (digN n) = n := by
  induction n using Nat.strongRecOn with
  | _ n ih =>
    by_cases h : n < 10
    · rw [digN_low h]
      have := digit_to h
      simp only [valD, List.foldl_cons, List.foldl_nil, this]
      omega
    · rw [digN_high (by omega)]
      have h2 := digit_to (Nat.mod_lt n (show 10 > 0 by omega))
      have h3 := ih (n / 10) (by omega)
      unfold valD at h3 ⊢
      rw [List.foldl_append, h3]
      simp only [List.foldl_cons, List.foldl_nil, h2]
      omega
/-- How many digits. -/
theorem digN_len (n : Nat) (h : n ≤ 2147483647) : (digN n).length ≤ 10 := by
  have key : ∀ k n, n < 10 ^ (k + 1) → (digN n).length ≤ k + 1 := by
    intro k
    induction k with
    | zero => intro n hn; rw [digN_low (by simpa using hn)]; simp
    | succ k ih =>
      intro n hn
      by_cases h : n < 10
      · rw [digN_low h]; simp
      · rw [digN_high (by omega), List.length_append]
        have := ih (n / 10) (by rw [Nat.pow_succ] at hn; omega)
        simp only [List.length_cons, List.length_nil]
        omega
  exact key 9 n (by omega)
/-- A tree in words. -/
def formT : Tr → List UInt8
  | .leaf a b => digN a.toNat ++ [46] ++ digN b.toNat
  | .inner _ _ l r => [40] ++ formT l ++ [32] ++ formT r ++ [41]
def formO : Option Tr → List UInt8
  | none => []
  | some t => formT t
/-- A text that ends a number: it is over, or no digit comes. -/
def ends (s : List UInt8) : Prop := s = [] ∨ ∃ b r, s = b :: r ∧ isD b = false
theorem digits_cut : ∀ {d e s r : List UInt8}, d.all isD = true → e.all isD = true → ends s → ends r → d ++ s = e ++ r → d = e ∧ s = r
  | [], [], s, r, _, _, _, _, h => ⟨rfl, h⟩
  | [], b :: e, s, r, _, h2, h3, _, h => by
    simp only [List.all_cons, Bool.and_eq_true] at h2
    rcases h3 with rfl | ⟨c, q, rfl, hc⟩
    · simp at h
    · simp only [List.nil_append, List.cons_append, List.cons.injEq] at h
      rw [h.1, h2.1] at hc; cases hc
  | b :: d, [], s, r, h1, _, _, h4, h => by
    simp only [List.all_cons, Bool.and_eq_true] at h1
    rcases h4 with rfl | ⟨c, q, rfl, hc⟩
    · simp at h
    · simp only [List.nil_append, List.cons_append, List.cons.injEq] at h
      rw [← h.1, h1.1] at hc; cases hc
  | b :: d, c :: e, s, r, h1, h2, h3, h4, h => by
    simp only [List.all_cons, Bool.and_eq_true] at h1 h2
    simp only [List.cons_append, List.cons.injEq] at h
    obtain ⟨g1, g2⟩ := digits_cut h1.2 h2.2 h3 h4 h.2
    exact ⟨by rw [h.1, g1], g2⟩
theorem dig_cut {a b : Nat} {s r : List UInt8} (h3 : ends s) (h4 : ends r) (h : digN a ++ s = digN b ++ r) : a = b ∧ s = r := by
  obtain ⟨h1, h2⟩ := digits_cut (digN_digits a).1 (digN_digits b).1 h3 h4 h
  exact ⟨by rw [← valD_dig a, h1, valD_dig], h2⟩
/-- Leaves of members that may be, inner spots of nobody. -/
def fine : Tr → Prop
  | .leaf a b => 0 ≤ a ∧ 0 ≤ b
  | .inner a b l r => a = 0 ∧ b = 0 ∧ fine l ∧ fine r
theorem form_head (t : Tr) : ∃ b r, formT t = b :: r ∧ (match t with | .leaf _ _ => isD b = true | .inner _ _ _ _ => b = 40) := by
  cases t with
  | leaf a b =>
    obtain ⟨h1, h2⟩ := digN_digits a.toNat
    cases hd : digN a.toNat with
    | nil => exact absurd hd h2
    | cons c q =>
      rw [hd] at h1
      simp only [List.all_cons, Bool.and_eq_true] at h1
      exact ⟨c, q ++ [46] ++ digN b.toNat, by simp [formT, hd], h1.1⟩
  | inner a b l r => exact ⟨40, formT l ++ [32] ++ formT r ++ [41], by simp [formT], rfl⟩
theorem form_cut : ∀ (t u : Tr) (s r : List UInt8), fine t → fine u → ends s → ends r → formT t ++ s = formT u ++ r → t = u ∧ s = r
  | .leaf a b, .leaf c d, s, r, ht, hu, hs, hr, h => by
    simp only [formT, List.append_assoc] at h
    obtain ⟨h1, h2⟩ := dig_cut (Or.inr ⟨46, digN b.toNat ++ s, rfl, rfl⟩) (Or.inr ⟨46, digN d.toNat ++ r, rfl, rfl⟩) h
    simp only [List.cons.injEq, true_and] at h2
    obtain ⟨h3, h4⟩ := dig_cut hs hr h2
    have : a = c := by have := ht.1; have := hu.1; omega
    have : b = d := by have := ht.2; have := hu.2; omega
    subst_vars
    exact ⟨rfl, rfl⟩
  | .leaf a b, .inner c d l q, s, r, ht, hu, hs, hr, h => by
    obtain ⟨x, xs, hx, h1⟩ := form_head (.leaf a b)
    obtain ⟨y, ys, hy, h2⟩ := form_head (.inner c d l q)
    rw [hx, hy] at h
    simp only [List.cons_append, List.cons.injEq] at h
    simp only at h1 h2
    rw [h.1, h2] at h1
    cases h1
  | .inner c d l q, .leaf a b, s, r, ht, hu, hs, hr, h => by
    obtain ⟨x, xs, hx, h1⟩ := form_head (.leaf a b)
    obtain ⟨y, ys, hy, h2⟩ := form_head (.inner c d l q)
    rw [hx, hy] at h
    simp only [List.cons_append, List.cons.injEq] at h
    simp only at h1 h2
    rw [← h.1, h2] at h1
    cases h1
  | .inner a b l q, .inner c d l' q', s, r, ht, hu, hs, hr, h => by
    simp only [formT, List.append_assoc, List.cons_append, List.nil_append, List.cons.injEq, true_and] at h
    obtain ⟨h1, h2⟩ := form_cut l l' _ _ ht.2.2.1 hu.2.2.1 (Or.inr ⟨32, _, rfl, rfl⟩) (Or.inr ⟨32, _, rfl, rfl⟩) h
    simp only [List.cons.injEq, true_and] at h2
    obtain ⟨h3, h4⟩ := form_cut q q' _ _ ht.2.2.2 hu.2.2.2 (Or.inr ⟨41, _, rfl, rfl⟩) (Or.inr ⟨41, _, rfl, rfl⟩) h2
    simp only [List.cons.injEq, true_and] at h4
    obtain ⟨rfl, rfl, -, -⟩ := ht
    obtain ⟨rfl, rfl, -, -⟩ := hu
    subst h1 h3
    exact ⟨rfl, h4⟩
theorem fine_parts : ∀ (t : Tr), (flat t).all noWho = true → (∀ m ∈ lv (flat t), okM m.1 m.2 = true) → fine t
  | .leaf a b, _, h => by
    have := h (a, b) (by simp [flat, lv])
    simp only [okM, okC, Bool.and_eq_true, decide_eq_true_eq] at this
    exact ⟨this.1.1, by omega⟩
  | .inner a b l r, h1, h2 => by
    have e : lv (flat (.inner a b l r)) = lv (flat l) ++ lv (flat r) := by rw [← lv_append]; rfl
    rw [e] at h2
    simp only [flat, List.all_cons, List.all_append, Bool.and_eq_true] at h1
    have h3 : a = 0 ∧ b = 0 := by simpa [noWho] using h1.1
    exact ⟨h3.1, h3.2, fine_parts l h1.2.1 fun m hm => h2 m (List.mem_append_left _ hm), fine_parts r h1.2.2 fun m hm => h2 m (List.mem_append_right _ hm)⟩
theorem okT_fine {t : Tr} (h : okT (spo (some t)) = true) : fine t := by
  obtain ⟨-, h2, h3⟩ := okT_parts h
  exact fine_parts t h2 fun m hm => once_ok h3 hm
theorem form_inj {x y : Option Tr} (hx : okT (spo x) = true) (hy : okT (spo y) = true) : formO x = formO y ↔ x = y := by
  refine ⟨fun h => ?_, fun h => by rw [h]⟩
  cases x with
  | none =>
    cases y with
    | none => rfl
    | some u =>
      obtain ⟨b, r, hb, -⟩ := form_head u
      have h : ([] : List UInt8) = formT u := h
      rw [hb] at h; cases h
  | some t =>
    cases y with
    | none =>
      obtain ⟨b, r, hb, -⟩ := form_head t
      have h : formT t = ([] : List UInt8) := h
      rw [hb] at h; cases h
    | some u =>
      have h : formT t ++ [] = formT u ++ [] := by rw [List.append_nil, List.append_nil]; exact h
      rw [(form_cut t u [] [] (okT_fine hx) (okT_fine hy) (Or.inl rfl) (Or.inl rfl) h).1]

end Go.Proofs.YtjnefacdindamaaGreatDoor
