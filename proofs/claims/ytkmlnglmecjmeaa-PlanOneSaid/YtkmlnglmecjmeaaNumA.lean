/- Several texts in one: each part says what it proves, and under which conditions. -/

/- Plain arithmetic of numbers that are lists of limbs below 2^64, the lowest first: no condition but those that each theorem names. -/
namespace Go.Proofs.Ytkmlnglmecjmeaa.Num

def M : Nat := 18446744073709551616
theorem M_pos : 0 < M := by unfold M; omega
theorem M_two : M = 2 ^ 64 := by decide

def val : List Nat → Nat
  | [] => 0
  | x :: xs => x + M * val xs

def Ok (xs : List Nat) : Prop := ∀ x ∈ xs, x < M

/-- The k-th limb: 0 above all. -/
def lat (xs : List Nat) (k : Nat) : Nat := xs[k]?.getD 0
theorem lat_lt {xs : List Nat} {k : Nat} (h : k < xs.length) : lat xs k = xs[k] := by simp [lat, h]
theorem lat_ge {xs : List Nat} {k : Nat} (h : ¬ k < xs.length) : lat xs k = 0 := by simp [lat, h]

theorem ok_nil : Ok [] := fun _ h => by cases h
theorem ok_append {xs ys : List Nat} (h : Ok xs) (g : Ok ys) : Ok (xs ++ ys) := fun x hx => (List.mem_append.1 hx).elim (h x) (g x)
theorem ok_one {x : Nat} (h : x < M) : Ok [x] := fun y hy => by simp at hy; omega
theorem ok_get {xs : List Nat} (h : Ok xs) (j : Nat) : lat xs j < M := by
  unfold lat
  by_cases hj : j < xs.length
  · simp [hj]; exact h _ (List.getElem_mem hj)
  · simp [hj]; exact M_pos
theorem ok_take {xs : List Nat} (h : Ok xs) (n : Nat) : Ok (xs.take n) := fun x hx => h x (List.mem_of_mem_take hx)

theorem snoc_ind {α : Type} {P : List α → Prop} (h0 : P []) (hs : ∀ l x, P l → P (l ++ [x])) : ∀ l, P l := by
  intro l
  rw [← List.reverse_reverse l]
  induction l.reverse with
  | nil => exact h0
  | cons x xs ih => rw [List.reverse_cons]; exact hs _ _ ih

theorem val_append (xs ys : List Nat) : val (xs ++ ys) = val xs + M ^ xs.length * val ys := by
  induction xs with
  | nil => simp [val]
  | cons x xs ih =>
    simp only [List.cons_append, val, ih, List.length_cons, Nat.pow_succ, Nat.mul_add, Nat.add_assoc]
    congr 2
    rw [← Nat.mul_assoc, Nat.mul_comm M]

theorem val_snoc (xs : List Nat) (x : Nat) : val (xs ++ [x]) = val xs + M ^ xs.length * x := by
  rw [val_append]; simp [val]

theorem val_lt {xs : List Nat} (h : Ok xs) : val xs < M ^ xs.length := by
  induction xs with
  | nil => simp [val]
  | cons x xs ih =>
    have hx := h x (by simp)
    have hi := ih (fun y hy => h y (by simp [hy]))
    simp only [val, List.length_cons, Nat.pow_succ]
    have : M * (val xs + 1) ≤ M * M ^ xs.length := Nat.mul_le_mul_left _ hi
    rw [Nat.mul_comm (M ^ _)]
    rw [Nat.mul_add] at this
    omega

/-! ### Without noughts on top -/
def trim : List Nat → List Nat
  | [] => []
  | x :: xs => if trim xs = [] then (if x = 0 then [] else [x]) else x :: trim xs

def hgt (xs : List Nat) : Nat := (trim xs).length

theorem trim_take (xs : List Nat) : xs.take (hgt xs) = trim xs := by
  induction xs with
  | nil => rfl
  | cons x xs ih =>
    unfold hgt at ih ⊢
    simp only [trim]
    by_cases h : trim xs = []
    · rw [if_pos h]
      by_cases hx : x = 0
      · simp [hx]
      · simp [hx]
    · rw [if_neg h]; simp [ih]

theorem hgt_le (xs : List Nat) : hgt xs ≤ xs.length := by
  have h := congrArg List.length (trim_take xs)
  rw [List.length_take] at h
  have : (trim xs).length = hgt xs := rfl
  omega

theorem trim_snoc_zero (xs : List Nat) : trim (xs ++ [0]) = trim xs := by
  induction xs with
  | nil => simp [trim]
  | cons x xs ih => simp [trim, ih]

theorem trim_snoc_pos (xs : List Nat) {x : Nat} (h : x ≠ 0) : trim (xs ++ [x]) = xs ++ [x] := by
  induction xs with
  | nil => simp [trim, h]
  | cons y ys ih => simp [trim, ih]

theorem hgt_snoc_zero (xs : List Nat) : hgt (xs ++ [0]) = hgt xs := by unfold hgt; rw [trim_snoc_zero]
theorem hgt_snoc_pos (xs : List Nat) {x : Nat} (h : x ≠ 0) : hgt (xs ++ [x]) = xs.length + 1 := by unfold hgt; rw [trim_snoc_pos xs h]; simp

theorem val_trim (xs : List Nat) : val (trim xs) = val xs := by
  induction xs with
  | nil => rfl
  | cons x xs ih =>
    simp only [trim]
    by_cases h : trim xs = []
    · rw [if_pos h]
      have : val xs = 0 := by rw [← ih, h]; rfl
      by_cases hx : x = 0
      · simp [hx, val, this]
      · simp [hx, val, this]
    · rw [if_neg h]; simp [val, ih]

theorem ok_trim {xs : List Nat} (h : Ok xs) : Ok (trim xs) := by rw [← trim_take]; exact ok_take h _

theorem trim_trim (xs : List Nat) : trim (trim xs) = trim xs := by
  induction xs with
  | nil => rfl
  | cons x xs ih =>
    simp only [trim]
    by_cases h : trim xs = []
    · rw [if_pos h]
      by_cases hx : x = 0
      · simp [hx, trim]
      · simp [hx, trim]
    · rw [if_neg h]; simp [trim, ih, h]

/-- Where the loop of 'height' ends. -/
theorem hgt_end_zero (xs : List Nat) (hh : hgt (xs.take 0) = hgt xs) : hgt xs = 0 := by rw [← hh]; simp [hgt, trim]
theorem hgt_end (xs : List Nat) (j : Nat) (hk : j < xs.length) (hh : hgt (xs.take (j + 1)) = hgt xs) (hz : lat xs j ≠ 0) : hgt xs = j + 1 := by
  rw [← hh, List.take_succ_eq_append_getElem (by omega), hgt_snoc_pos]
  · simp; omega
  · simpa [lat, hk] using hz

theorem hgt_step (xs : List Nat) (j : Nat) (hk : j < xs.length) (hz : lat xs j = 0) : hgt (xs.take (j + 1)) = hgt (xs.take j) := by
  rw [List.take_succ_eq_append_getElem hk]
  have : xs[j] = 0 := by simpa [lat, hk] using hz
  rw [this, hgt_snoc_zero]

/-! ### The limbs of a number -/
def limbsF : Nat → Nat → List Nat
  | 0, _ => []
  | f + 1, n => if n = 0 then [] else n % M :: limbsF f (n / M)
def limbs (n : Nat) : List Nat := limbsF n n

theorem div_lt_self' {n : Nat} (h : n ≠ 0) : n / M < n := Nat.div_lt_self (by omega) (by unfold M; omega)

theorem limbsF_fuel : ∀ (f g n : Nat), n ≤ f → n ≤ g → limbsF f n = limbsF g n := by
  intro f
  induction f with
  | zero =>
    intro g n h _
    have : n = 0 := by omega
    subst this
    cases g <;> simp [limbsF]
  | succ f ih =>
    intro g n hf hg
    by_cases h : n = 0
    · subst h; cases g <;> simp [limbsF]
    · cases g with
      | zero => omega
      | succ g =>
        have := div_lt_self' h
        simp only [limbsF, if_neg h]
        rw [ih g (n / M) (by omega) (by omega)]

theorem limbs_zero : limbs 0 = [] := rfl
theorem limbs_pos {n : Nat} (h : n ≠ 0) : limbs n = n % M :: limbs (n / M) := by
  unfold limbs
  cases n with
  | zero => exact absurd rfl h
  | succ n =>
    have := div_lt_self' h
    rw [limbsF, if_neg h, limbsF_fuel n _ _ (by omega) (Nat.le_refl _)]

theorem val_zero_trim {xs : List Nat} (h : val xs = 0) : trim xs = [] := by
  induction xs with
  | nil => rfl
  | cons x xs ih =>
    have hp := M_pos
    simp only [val] at h
    have h1 : x = 0 := by omega
    have h2 : M * val xs = 0 := by omega
    have h3 : val xs = 0 := by rcases Nat.mul_eq_zero.1 h2 with h | h <;> omega
    simp [trim, ih h3, h1]

theorem limbs_val {xs : List Nat} (h : Ok xs) : limbs (val xs) = trim xs := by
  induction xs with
  | nil => rfl
  | cons x xs ih =>
    have hx := h x (by simp)
    have hi := ih (fun y hy => h y (by simp [hy]))
    by_cases h0 : val (x :: xs) = 0
    · rw [h0, val_zero_trim h0]; rfl
    · rw [limbs_pos h0]
      have e1 : val (x :: xs) % M = x := by simp only [val]; rw [Nat.add_mul_mod_self_left, Nat.mod_eq_of_lt hx]
      have e2 : val (x :: xs) / M = val xs := by simp only [val]; rw [Nat.add_mul_div_left _ _ M_pos, Nat.div_eq_of_lt hx, Nat.zero_add]
      rw [e1, e2, hi]
      by_cases h2 : trim xs = []
      · have : val xs = 0 := by rw [← val_trim, h2]; rfl
        have hx0 : x ≠ 0 := by intro e; apply h0; simp [val, this, e]
        simp [trim, h2, hx0]
      · simp [trim, h2]

theorem val_limbs (n : Nat) : val (limbs n) = n := by
  induction n using Nat.strongRecOn with
  | _ n ih =>
    by_cases h : n = 0
    · subst h; rfl
    · rw [limbs_pos h]
      simp only [val]
      rw [ih _ (div_lt_self' h)]
      exact Nat.mod_add_div n M

theorem ok_limbs (n : Nat) : Ok (limbs n) := by
  induction n using Nat.strongRecOn with
  | _ n ih =>
    by_cases h : n = 0
    · subst h; exact ok_nil
    · rw [limbs_pos h]
      intro x hx
      rcases List.mem_cons.1 hx with rfl | hx
      · exact Nat.mod_lt _ M_pos
      · exact ih _ (div_lt_self' h) x hx

theorem trim_limbs (n : Nat) : trim (limbs n) = limbs n := by
  have := limbs_val (ok_limbs n)
  rw [val_limbs] at this
  exact this.symm

theorem limbs_len {n k : Nat} (h : n < M ^ k) : (limbs n).length ≤ k := by
  induction k generalizing n with
  | zero => simp at h; subst h; simp [limbs_zero]
  | succ k ih =>
    by_cases h0 : n = 0
    · subst h0; simp [limbs_zero]
    · rw [limbs_pos h0]
      simp only [List.length_cons]
      have : n / M < M ^ k := by
        rw [Nat.pow_succ, Nat.mul_comm] at h
        exact Nat.div_lt_of_lt_mul h
      have := ih this
      omega

theorem limbs_inj {a b : Nat} (h : limbs a = limbs b) : a = b := by rw [← val_limbs a, h, val_limbs]

/-! ### Pairs of limbs, side by side -/
def Pair : Type := { p : Nat × Nat // p.1 < M ∧ p.2 < M }
def av (pre : List Pair) : Nat := val (pre.map (fun p => p.1.1))
def bv (pre : List Pair) : Nat := val (pre.map (fun p => p.1.2))
theorem av_snoc (pre : List Pair) (p : Pair) : av (pre ++ [p]) = av pre + M ^ pre.length * p.1.1 := by unfold av; rw [List.map_append, List.map_cons, List.map_nil, val_snoc, List.length_map]
theorem bv_snoc (pre : List Pair) (p : Pair) : bv (pre ++ [p]) = bv pre + M ^ pre.length * p.1.2 := by unfold bv; rw [List.map_append, List.map_cons, List.map_nil, val_snoc, List.length_map]
theorem av_lt (pre : List Pair) : av pre < M ^ pre.length := by
  have := val_lt (xs := pre.map (fun p => p.1.1)) (fun x hx => by obtain ⟨p, _, rfl⟩ := List.mem_map.1 hx; exact p.2.1)
  simpa [av] using this
theorem bv_lt (pre : List Pair) : bv pre < M ^ pre.length := by
  have := val_lt (xs := pre.map (fun p => p.1.2)) (fun x hx => by obtain ⟨p, _, rfl⟩ := List.mem_map.1 hx; exact p.2.2)
  simpa [bv] using this

def upto {α : Type} (f : Nat → α) (k : Nat) : List α := (List.range k).map f
theorem upto_succ {α : Type} (f : Nat → α) (k : Nat) : upto f (k + 1) = upto f k ++ [f k] := by simp [upto, List.range_succ]
theorem upto_length {α : Type} (f : Nat → α) (k : Nat) : (upto f k).length = k := by simp [upto]

theorem val_upto (xs : List Nat) : ∀ n, xs.length ≤ n → val (upto (fun j => xs[j]?.getD 0) n) = val xs := by
  have hz : ∀ n, val (upto (fun _ => 0) n) = 0 := by
    intro n
    induction n with
    | zero => rfl
    | succ n ih => rw [upto_succ, val_snoc, ih]; simp
  induction xs with
  | nil => intro n _; simpa [val] using hz n
  | cons x xs ih =>
    intro n hn
    cases n with
    | zero => simp at hn
    | succ n =>
      have h1 : upto (fun j => (x :: xs)[j]?.getD 0) (n + 1) = x :: upto (fun j => xs[j]?.getD 0) n := by
        unfold upto
        rw [List.range_succ_eq_map]
        simp [Function.comp_def]
      rw [h1]
      simp only [val]
      rw [ih n (by simpa using hn)]

def pairAt (xs ys : List Nat) (hx : Ok xs) (hy : Ok ys) (j : Nat) : Pair := ⟨(lat xs j, lat ys j), ok_get hx j, ok_get hy j⟩
theorem av_upto (xs ys : List Nat) (hx : Ok xs) (hy : Ok ys) (n : Nat) (hn : xs.length ≤ n) : av (upto (pairAt xs ys hx hy) n) = val xs := by
  rw [← val_upto xs n hn]; unfold av upto; rw [List.map_map]; rfl
theorem bv_upto (xs ys : List Nat) (hx : Ok xs) (hy : Ok ys) (n : Nat) (hn : ys.length ≤ n) : bv (upto (pairAt xs ys hx hy) n) = val ys := by
  rw [← val_upto ys n hn]; unfold bv upto; rw [List.map_map]; rfl

/-! ### A sum, limb by limb -/
def addLo (x y c : Nat) : Nat := (x + y + c) % M
def addHi (x y c : Nat) : Nat := (x + y + c) / M
theorem add_split (x y c : Nat) : addLo x y c + M * addHi x y c = x + y + c := Nat.mod_add_div _ _
theorem addHi_le {x y c : Nat} (hx : x < M) (hy : y < M) (hc : c ≤ 1) : addHi x y c ≤ 1 := by
  unfold addHi
  have : (x + y + c) / M < 2 := Nat.div_lt_of_lt_mul (by omega)
  omega
theorem addLo_lt (x y c : Nat) : addLo x y c < M := Nat.mod_lt _ M_pos

def addF (c : Nat) (pre : List Pair) : List Nat × Nat := pre.foldl (fun s p => (s.1 ++ [addLo p.1.1 p.1.2 s.2], addHi p.1.1 p.1.2 s.2)) ([], c)
theorem addF_nil (c : Nat) : addF c [] = ([], c) := rfl
theorem addF_snoc (c : Nat) (pre : List Pair) (p : Pair) : addF c (pre ++ [p]) = ((addF c pre).1 ++ [addLo p.1.1 p.1.2 (addF c pre).2], addHi p.1.1 p.1.2 (addF c pre).2) := by simp [addF]

theorem addF_inv {c : Nat} (hc : c ≤ 1) (pre : List Pair) : (addF c pre).2 ≤ 1 ∧ (addF c pre).1.length = pre.length ∧ Ok (addF c pre).1 ∧ val (addF c pre).1 + M ^ pre.length * (addF c pre).2 = av pre + bv pre + c := by
  refine snoc_ind (P := fun pre => (addF c pre).2 ≤ 1 ∧ (addF c pre).1.length = pre.length ∧ Ok (addF c pre).1 ∧ val (addF c pre).1 + M ^ pre.length * (addF c pre).2 = av pre + bv pre + c) ?_ ?_ pre
  · exact ⟨hc, rfl, ok_nil, by simp [addF, av, bv, val]⟩
  · rintro l p ⟨h1, h2, h3, h4⟩
    rw [addF_snoc]
    refine ⟨addHi_le p.2.1 p.2.2 h1, by simp [h2], ok_append h3 (ok_one (addLo_lt _ _ _)), ?_⟩
    dsimp only
    rw [val_snoc, av_snoc, bv_snoc, h2, List.length_append, List.length_singleton, Nat.pow_succ]
    have e := add_split p.1.1 p.1.2 (addF c l).2
    have e2 := congrArg (M ^ l.length * ·) e
    simp only [Nat.mul_add] at e2
    rw [Nat.mul_assoc]
    omega

theorem addF_total {c : Nat} (hc : c ≤ 1) (pre : List Pair) : limbs (av pre + bv pre + c) = trim ((addF c pre).1 ++ [(addF c pre).2]) := by
  obtain ⟨h1, h2, h3, h4⟩ := addF_inv hc pre
  have h6 : 1 < M := by decide
  have h5 : (addF c pre).2 < M := by omega
  rw [← limbs_val (ok_append h3 (ok_one h5)), val_snoc, h2, h4]

/-! ### A difference, limb by limb -/
def subLo (x y b : Nat) : Nat := (x + M - y - b) % M
def subHi (x y b : Nat) : Nat := if x < y + b then 1 else 0
theorem sub_split {x y b : Nat} (hx : x < M) (hy : y < M) (hb : b ≤ 1) : subLo x y b + y + b = x + M * subHi x y b := by
  unfold subLo subHi
  by_cases h : x < y + b
  · rw [if_pos h, Nat.mod_eq_of_lt (by omega)]; omega
  · rw [if_neg h]
    have : x + M - y - b = (x - y - b) + M := by omega
    rw [this, Nat.add_mod_right, Nat.mod_eq_of_lt (by omega)]; omega
theorem subHi_le (x y b : Nat) : subHi x y b ≤ 1 := by unfold subHi; split <;> omega
theorem subLo_lt (x y b : Nat) : subLo x y b < M := Nat.mod_lt _ M_pos

def subF (pre : List Pair) : List Nat × Nat := pre.foldl (fun s p => (s.1 ++ [subLo p.1.1 p.1.2 s.2], subHi p.1.1 p.1.2 s.2)) ([], 0)
theorem subF_nil : subF [] = ([], 0) := rfl
theorem subF_snoc (pre : List Pair) (p : Pair) : subF (pre ++ [p]) = ((subF pre).1 ++ [subLo p.1.1 p.1.2 (subF pre).2], subHi p.1.1 p.1.2 (subF pre).2) := by simp [subF]

theorem subF_inv (pre : List Pair) : (subF pre).2 ≤ 1 ∧ (subF pre).1.length = pre.length ∧ Ok (subF pre).1 ∧ val (subF pre).1 + bv pre = av pre + M ^ pre.length * (subF pre).2 := by
  refine snoc_ind (P := fun pre => (subF pre).2 ≤ 1 ∧ (subF pre).1.length = pre.length ∧ Ok (subF pre).1 ∧ val (subF pre).1 + bv pre = av pre + M ^ pre.length * (subF pre).2) ?_ ?_ pre
  · exact ⟨by simp [subF], rfl, ok_nil, by simp [subF, av, bv, val]⟩
  · rintro l p ⟨h1, h2, h3, h4⟩
    rw [subF_snoc]
    refine ⟨subHi_le _ _ _, by simp [h2], ok_append h3 (ok_one (subLo_lt _ _ _)), ?_⟩
    dsimp only
    rw [val_snoc, av_snoc, bv_snoc, h2, List.length_append, List.length_singleton, Nat.pow_succ]
    have e := sub_split p.2.1 p.2.2 h1
    have e2 := congrArg (M ^ l.length * ·) e
    simp only [Nat.mul_add] at e2
    rw [Nat.mul_assoc]
    omega

theorem subF_borrow (pre : List Pair) : (subF pre).2 = if av pre < bv pre then 1 else 0 := by
  obtain ⟨h1, h2, h3, h4⟩ := subF_inv pre
  have ha := av_lt pre
  have hb := bv_lt pre
  have hv := val_lt h3
  rw [h2] at hv
  rcases Nat.le_one_iff_eq_zero_or_eq_one.1 h1 with h | h
  · rw [h] at h4 ⊢; rw [if_neg (by omega)]
  · rw [h] at h4 ⊢; rw [if_pos (by omega)]

theorem subF_total (pre : List Pair) (h : bv pre ≤ av pre) : limbs (av pre - bv pre) = trim (subF pre).1 := by
  obtain ⟨h1, h2, h3, h4⟩ := subF_inv pre
  have hb := subF_borrow pre
  rw [if_neg (by omega)] at hb
  rw [hb] at h4
  rw [← limbs_val h3]
  congr 1
  omega

/-! ### Which is greater -/
def cmpN (x y : Nat) : Int := if x < y then -1 else if y < x then 1 else 0
theorem cmpN_lt {x y : Nat} (h : x < y) : cmpN x y = -1 := by simp [cmpN, h]
theorem cmpN_gt {x y : Nat} (h : y < x) : cmpN x y = 1 := by
  have : ¬ x < y := by omega
  simp [cmpN, h, this]
theorem cmpN_eq (x : Nat) : cmpN x x = 0 := by simp [cmpN]
theorem cmpN_zero {x y : Nat} (h : cmpN x y = 0) : x = y := by
  unfold cmpN at h
  split at h
  · cases h
  · split at h
    · cases h
    · omega
theorem cmpN_neg (x y : Nat) : cmpN y x = - cmpN x y := by
  unfold cmpN
  by_cases h : x < y
  · have : ¬ y < x := by omega
    simp [h, this]
  · by_cases g : y < x
    · simp [h, g]
    · simp [h, g]

theorem cmpN_top (q a b x y : Nat) (ha : a < q) (hb : b < q) : cmpN (a + q * x) (b + q * y) = if x = y then cmpN a b else cmpN x y := by
  by_cases h : x = y
  · subst h
    rw [if_pos rfl]
    unfold cmpN
    by_cases h1 : a < b
    · rw [if_pos h1, if_pos (by omega)]
    · rw [if_neg h1, if_neg (by omega)]
      by_cases h2 : b < a
      · rw [if_pos h2, if_pos (by omega)]
      · rw [if_neg h2, if_neg (by omega)]
  · rw [if_neg h]
    rcases Nat.lt_or_gt_of_ne h with h1 | h1
    · have : q * (x + 1) ≤ q * y := Nat.mul_le_mul_left _ h1
      rw [Nat.mul_add] at this
      rw [cmpN_lt h1, cmpN_lt (by omega)]
    · have : q * (y + 1) ≤ q * x := Nat.mul_le_mul_left _ h1
      rw [Nat.mul_add] at this
      rw [cmpN_gt h1, cmpN_gt (by omega)]

def cmpF (pre : List Pair) : Int := pre.foldl (fun s p => if cmpN p.1.1 p.1.2 = 0 then s else cmpN p.1.1 p.1.2) 0
theorem cmpF_snoc (pre : List Pair) (p : Pair) : cmpF (pre ++ [p]) = if cmpN p.1.1 p.1.2 = 0 then cmpF pre else cmpN p.1.1 p.1.2 := by simp [cmpF]
theorem cmpF_total (pre : List Pair) : cmpF pre = cmpN (av pre) (bv pre) := by
  refine snoc_ind (P := fun pre => cmpF pre = cmpN (av pre) (bv pre)) ?_ ?_ pre
  · rfl
  · intro l p ih
    rw [cmpF_snoc, av_snoc, bv_snoc, cmpN_top _ _ _ _ _ (av_lt l) (bv_lt l), ih]
    by_cases h : p.1.1 = p.1.2
    · rw [if_pos h, if_pos (by rw [h, cmpN_eq])]
    · rw [if_neg h, if_neg (fun e => h (cmpN_zero e))]

/-! ### Bits -/
def nbits (n : Nat) : Nat := if n = 0 then 0 else n.log2 + 1
theorem nbits_zero : nbits 0 = 0 := rfl
theorem nbits_le {n k : Nat} : nbits n ≤ k ↔ n < 2 ^ k := by
  unfold nbits
  by_cases h : n = 0
  · subst h; simp; exact Nat.two_pow_pos k
  · rw [if_neg h, Nat.add_one_le_iff, Nat.log2_lt h]
theorem nbits_top (q t : Nat) (k : Nat) (hq : q < 2 ^ k) (ht : t ≠ 0) : nbits (q + 2 ^ k * t) = k + nbits t := by
  have hp := Nat.two_pow_pos k
  have h1 : ∀ j, nbits (q + 2 ^ k * t) ≤ k + j ↔ nbits t ≤ j := by
    intro j
    rw [nbits_le, nbits_le, Nat.pow_add]
    constructor
    · intro h
      rcases Nat.lt_or_ge t (2 ^ j) with g | g
      · exact g
      · have := Nat.mul_le_mul_left (2 ^ k) g; omega
    · intro h
      have : 2 ^ k * (t + 1) ≤ 2 ^ k * 2 ^ j := Nat.mul_le_mul_left _ h
      rw [Nat.mul_add] at this; omega
  have h2 := (h1 (nbits t)).2 (Nat.le_refl _)
  have h3 : k < nbits (q + 2 ^ k * t) := by
    rcases Nat.lt_or_ge k (nbits (q + 2 ^ k * t)) with g | g
    · exact g
    · have g := nbits_le.1 g
      have : 2 ^ k * 1 ≤ 2 ^ k * t := Nat.mul_le_mul_left _ (by omega)
      omega
  have h4 := (h1 (nbits (q + 2 ^ k * t) - k)).1 (by omega)
  omega
theorem nbits_double {n : Nat} (h : n ≠ 0) (b : Nat) (hb : b ≤ 1) : nbits (b + 2 * n) = nbits n + 1 := by
  have := nbits_top b n 1 (by omega) h
  simpa [Nat.add_comm] using this
theorem M_pow (k : Nat) : M ^ k = 2 ^ (64 * k) := by rw [M_two, ← Nat.pow_mul]

/-- The bits of a number by its topmost limb. -/
theorem nbits_limbs (xs : List Nat) (h : Ok xs) (j : Nat) (hh : hgt xs = j + 1) : nbits (val xs) = 64 * j + nbits (lat xs j) ∧ lat xs j ≠ 0 ∧ j < xs.length := by
  rw [show lat xs j = xs[j]?.getD 0 from rfl]
  have hl := hgt_le xs
  have hj : j < xs.length := by omega
  have ht := trim_take xs
  rw [hh, List.take_succ_eq_append_getElem hj] at ht
  have hne : xs[j] ≠ 0 := by
    intro e
    have h1 := trim_trim xs
    rw [← ht, e, trim_snoc_zero] at h1
    have h2 := congrArg List.length h1
    have h3 := hgt_le (xs.take j)
    unfold hgt at h3
    simp at h2 h3
    omega
  refine ⟨?_, by simpa [hj] using hne, hj⟩
  rw [← val_trim, ← ht, val_snoc, M_pow]
  have hv := val_lt (ok_take h j)
  rw [M_pow] at hv
  have e : (xs.take j).length = j := by simp; omega
  rw [e] at hv ⊢
  rw [nbits_top _ _ _ hv hne]
  simp [hj]

def bitN (n i : Nat) : Nat := n / 2 ^ i % 2
theorem bitN_le (n i : Nat) : bitN n i ≤ 1 := by unfold bitN; omega
theorem bitN_limb (xs : List Nat) (h : Ok xs) : ∀ i, bitN (lat xs (i / 64)) (i % 64) = bitN (val xs) i := by
  unfold lat
  induction xs with
  | nil => intro i; simp [val, bitN]
  | cons x xs ih =>
    have hx := h x (by simp)
    have hi := ih (fun y hy => h y (by simp [hy]))
    intro i
    unfold bitN at hi ⊢
    rw [M_two] at hx
    simp only [val, M_two]
    by_cases h64 : i < 64
    · rw [show i / 64 = 0 from by omega, show i % 64 = i from by omega]
      simp only [List.getElem?_cons_zero, Option.getD_some]
      have e : x + 2 ^ 64 * val xs = x + 2 ^ i * (2 * (2 ^ (63 - i) * val xs)) := by
        have : (2 : Nat) ^ 64 = 2 ^ i * (2 * 2 ^ (63 - i)) := by
          rw [← Nat.pow_succ', ← Nat.pow_add]; congr 1; omega
        rw [this, Nat.mul_assoc, Nat.mul_assoc]
      rw [e, Nat.add_mul_div_left _ _ (Nat.two_pow_pos i)]
      omega
    · obtain ⟨k, rfl⟩ : ∃ k, i = k + 64 := ⟨i - 64, by omega⟩
      rw [show (k + 64) / 64 = k / 64 + 1 from by omega, show (k + 64) % 64 = k % 64 from by omega]
      simp only [List.getElem?_cons_succ]
      rw [hi k, Nat.add_comm k 64, Nat.pow_add, ← Nat.div_div_eq_div_mul, Nat.add_mul_div_left _ _ (Nat.two_pow_pos 64), Nat.div_eq_of_lt hx, Nat.zero_add]

end Go.Proofs.Ytkmlnglmecjmeaa.Num


/- Plain arithmetic of products and quotients, limb by limb: sums of limbs that lie in a row, a step of each loop, a quotient's guess. No condition but those that each theorem names. -/
namespace Go.Proofs.Ytkmlnglmecjmeaa.Num

/-- The number that k limbs of a row from o on are. -/
def sm (f : Nat → Nat) (o : Nat) : Nat → Nat
  | 0 => 0
  | k + 1 => sm f o k + M ^ k * f (o + k)
def upd (f : Nat → Nat) (i x : Nat) : Nat → Nat := fun j => if j = i then x else f j
theorem upd_same (f : Nat → Nat) (i x : Nat) : upd f i x i = x := by simp [upd]
theorem upd_other (f : Nat → Nat) {i j : Nat} (x : Nat) (h : j ≠ i) : upd f i x j = f j := by simp [upd, h]
theorem upd_lt {f : Nat → Nat} (h : ∀ j, f j < M) (i : Nat) {x : Nat} (hx : x < M) : ∀ j, upd f i x j < M := by
  intro j; unfold upd; split
  · exact hx
  · exact h j

theorem sm_zero (f : Nat → Nat) (o : Nat) : sm f o 0 = 0 := rfl
theorem sm_succ (f : Nat → Nat) (o k : Nat) : sm f o (k + 1) = sm f o k + M ^ k * f (o + k) := rfl
theorem sm_congr {f g : Nat → Nat} {o k : Nat} (h : ∀ j, j < k → f (o + j) = g (o + j)) : sm f o k = sm g o k := by
  induction k with
  | zero => rfl
  | succ k ih => rw [sm_succ, sm_succ, ih (fun j hj => h j (by omega)), h k (by omega)]
theorem sm_lt {f : Nat → Nat} (h : ∀ j, f j < M) (o k : Nat) : sm f o k < M ^ k := by
  induction k with
  | zero => simp [sm]
  | succ k ih =>
    rw [sm_succ, Nat.pow_succ]
    have h1 := h (o + k)
    have h2 : M ^ k * (f (o + k) + 1) ≤ M ^ k * M := Nat.mul_le_mul_left _ h1
    rw [Nat.mul_add] at h2
    omega
theorem sm_split (f : Nat → Nat) (o j k : Nat) : sm f o (j + k) = sm f o j + M ^ j * sm f (o + j) k := by
  induction k with
  | zero => simp [sm]
  | succ k ih =>
    rw [← Nat.add_assoc, sm_succ, ih, sm_succ, Nat.mul_add, Nat.pow_add, Nat.mul_assoc]
    have e : o + (j + k) = o + j + k := by omega
    rw [e]
    omega
theorem sm_upd_out (f : Nat → Nat) {i o k : Nat} (x : Nat) (h : i < o ∨ o + k ≤ i) : sm (upd f i x) o k = sm f o k := sm_congr fun j hj => upd_other f x (by omega)
theorem sm_upd_last (f : Nat → Nat) (o k x : Nat) : sm (upd f (o + k) x) o (k + 1) = sm f o k + M ^ k * x := by
  rw [sm_succ, sm_upd_out f x (.inr (Nat.le_refl _)), upd_same]
theorem sm_nought {f : Nat → Nat} {o k : Nat} (h : ∀ j, j < k → f (o + j) = 0) : sm f o k = 0 := by
  induction k with
  | zero => rfl
  | succ k ih => rw [sm_succ, ih (fun j hj => h j (by omega)), h k (by omega)]; simp
theorem sm_nought' {f : Nat → Nat} {o k : Nat} (h : sm f o k = 0) : ∀ j, j < k → f (o + j) = 0 := by
  induction k with
  | zero => intro j hj; omega
  | succ k ih =>
    rw [sm_succ] at h
    intro j hj
    rcases Nat.lt_or_ge j k with h1 | h1
    · exact ih (by omega) j h1
    · obtain rfl : j = k := by omega
      have h2 : M ^ j * f (o + j) = 0 := by omega
      have h3 : 0 < M ^ j := Nat.pow_pos M_pos
      rcases Nat.mul_eq_zero.1 h2 with h4 | h4 <;> omega
theorem val_upto_sm (f : Nat → Nat) (n : Nat) : val (upto f n) = sm f 0 n := by
  induction n with
  | zero => rfl
  | succ n ih => rw [upto_succ, val_snoc, upto_length, ih, sm_succ, Nat.zero_add]
theorem val_sm (xs : List Nat) : val xs = sm (lat xs) 0 xs.length := by
  rw [← val_upto xs xs.length (Nat.le_refl _), val_upto_sm]; rfl
theorem sm_shift (f : Nat → Nat) (o k : Nat) : sm (fun j => f (o + j)) 0 k = sm f o k := by
  induction k with
  | zero => rfl
  | succ k ih => rw [sm_succ, sm_succ, ih, Nat.zero_add]
theorem lat_upto (f : Nat → Nat) {n j : Nat} (h : j < n) : lat (upto f n) j = f j := by simp [lat, upto, h]
theorem ok_upto {f : Nat → Nat} (h : ∀ j, f j < M) (n : Nat) : Ok (upto f n) := by
  intro x hx
  obtain ⟨j, _, rfl⟩ := List.mem_map.1 hx
  exact h j
theorem pow_M_pos (k : Nat) : 0 < M ^ k := Nat.pow_pos M_pos

/-! ### A product of two limbs -/
def mulHi (x y : Nat) : Nat := x * y / M
def mulLo (x y : Nat) : Nat := x * y % M
theorem mulHi_lt {x y : Nat} (hx : x < M) (hy : y < M) : mulHi x y < M := Nat.div_lt_of_lt_mul (Nat.mul_lt_mul'' hx hy)
theorem mulLo_lt (x y : Nat) : mulLo x y < M := Nat.mod_lt _ M_pos
theorem mul_split (x y : Nat) : mulLo x y + M * mulHi x y = x * y := Nat.mod_add_div _ _
theorem mul_most {x y : Nat} (hx : x < M) (hy : y < M) : x * y ≤ 340282366920938463426481119284349108225 := by
  have : x * y ≤ 18446744073709551615 * 18446744073709551615 := Nat.mul_le_mul (by unfold M at hx; omega) (by unfold M at hy; omega)
  simpa using this

/-- What a step of addTimes carries. -/
def mulC1 (x y s : Nat) : Nat := mulHi x y + addHi (mulLo x y) s 0
def mulN (x y s c : Nat) : Nat := addLo (addLo (mulLo x y) s 0) c 0
def mulC (x y s c : Nat) : Nat := mulC1 x y s + addHi (addLo (mulLo x y) s 0) c 0
theorem mul_step {x y s c : Nat} (hx : x < M) (hy : y < M) (hs : s < M) (hc : c < M) :
    mulC1 x y s < M ∧ mulC x y s c < M ∧ mulN x y s c + M * mulC x y s c = x * y + s + c := by
  have h1 := mul_split x y
  have h2 := add_split (mulLo x y) s 0
  have h3 := add_split (addLo (mulLo x y) s 0) c 0
  have h4 := mul_most hx hy
  unfold mulC mulC1 mulN
  generalize x * y = P at *
  generalize addLo (addLo (mulLo x y) s 0) c 0 = n at *
  generalize addHi (addLo (mulLo x y) s 0) c 0 = d at *
  generalize addLo (mulLo x y) s 0 = l at *
  generalize addHi (mulLo x y) s 0 = e at *
  generalize mulHi x y = h at *
  generalize mulLo x y = q at *
  unfold M at *
  omega

/-- A step of takeTimes. -/
theorem tak_step {x y r c : Nat} (hx : x < M) (hy : y < M) (hr : r < M) (hc : c < M) :
    mulHi x y + addHi (mulLo x y) c 0 < M ∧ mulHi x y + addHi (mulLo x y) c 0 + subHi r (addLo (mulLo x y) c 0) 0 < M ∧
      subLo r (addLo (mulLo x y) c 0) 0 + x * y + c = r + M * (mulHi x y + addHi (mulLo x y) c 0 + subHi r (addLo (mulLo x y) c 0) 0) := by
  have h1 := mul_split x y
  have h2 := add_split (mulLo x y) c 0
  have h5 := addLo_lt (mulLo x y) c 0
  have h3 := sub_split hr h5 (Nat.zero_le 1)
  have h4 := mul_most hx hy
  have h6 := subLo_lt r (addLo (mulLo x y) c 0) 0
  have h7 := subHi_le r (addLo (mulLo x y) c 0) 0
  generalize x * y = P at *
  generalize subLo r (addLo (mulLo x y) c 0) 0 = n at *
  generalize subHi r (addLo (mulLo x y) c 0) 0 = d at *
  generalize addLo (mulLo x y) c 0 = l at *
  generalize addHi (mulLo x y) c 0 = e at *
  generalize mulHi x y = h at *
  generalize mulLo x y = q at *
  unfold M at *
  omega

/-- One more limb of a sum of a multiple. -/
theorem add_round {P a b c s y x c' n X : Nat} (h : a + P * c = b + x * X) (e : n + M * c' = x * y + s + c) : (a + P * n) + P * M * c' = (b + P * s) + x * (X + P * y) := by
  have e2 := congrArg (P * ·) e
  simp only [Nat.mul_add] at e2
  rw [Nat.mul_add, Nat.mul_left_comm x P y, Nat.mul_assoc P M c']
  omega
theorem tak_round {P a b c r y x c' n X : Nat} (h : a + x * X = b + P * c) (e : n + x * y + c = r + M * c') : (a + P * n) + x * (X + P * y) = (b + P * r) + P * M * c' := by
  have e2 := congrArg (P * ·) e
  simp only [Nat.mul_add] at e2
  rw [Nat.mul_add, Nat.mul_left_comm x P y, Nat.mul_assoc P M c']
  omega
theorem tak_last {P a b c r x c' n X : Nat} (h : a + x * X = b + P * c) (e : n + c + 0 = r + M * c') : (a + P * n) + x * X = (b + P * r) + P * M * c' := by
  have e2 := congrArg (P * ·) e
  simp only [Nat.mul_add, Nat.mul_zero] at e2
  rw [Nat.mul_assoc P M c']
  omega
theorem put_last {P a b c r c' n X : Nat} (h : a + P * c = b + X) (e : n + M * c' = r + 0 + c) : (a + P * n) + P * M * c' = (b + P * r) + X := by
  have e2 := congrArg (P * ·) e
  simp only [Nat.mul_add, Nat.mul_zero] at e2
  rw [Nat.mul_assoc P M c']
  omega
theorem put_round {P a b c r y c' n X : Nat} (h : a + P * c = b + X) (e : n + M * c' = r + y + c) : (a + P * n) + P * M * c' = (b + P * r) + (X + P * y) := by
  have e2 := congrArg (P * ·) e
  simp only [Nat.mul_add] at e2
  rw [Nat.mul_assoc P M c']
  omega

/-- One more limb of the first factor. -/
theorem mul_outer {f f' : Nat → Nat} {k m c x V S : Nat} (h1 : ∀ j, j < k → f' j = f j) (h2 : sm f' k m + M ^ m * c = sm f k m + x * V) (h3 : sm f 0 (k + m) = S * V) : sm (upd f' (k + m) c) 0 (k + 1 + m) = (S + M ^ k * x) * V := by
  have e0 : k + 1 + m = (k + m) + 1 := by omega
  have e1 : sm (upd f' (k + m) c) 0 (k + m + 1) = sm f' 0 (k + m) + M ^ (k + m) * c := by
    have := sm_upd_last f' 0 (k + m) c
    rwa [Nat.zero_add] at this
  rw [e0, e1, sm_split, Nat.zero_add, Nat.pow_add, Nat.mul_assoc, Nat.add_assoc, ← Nat.mul_add, h2, Nat.mul_add, ← Nat.add_assoc]
  have e2 : sm f' 0 k = sm f 0 k := sm_congr fun j hj => by rw [Nat.zero_add]; exact h1 j hj
  have e3 := sm_split f 0 k m
  rw [Nat.zero_add] at e3
  rw [e2, ← e3, h3, Nat.add_mul, Nat.mul_assoc]

/-! ### One digit of a quotient -/
/-- What takeAll keeps: with t times D taken from R, what went below 0 borrowed from P. -/
theorem put_back {S D t R P S' c : Nat} (h : S + t * D = R + P) (hS : S < P) (e : S' + P * c = S + D) (hc : c ≤ 1) : 1 ≤ t ∧ R < t * D ∧ S' + (t - 1) * D = R + P * (1 - c) := by
  have h1 : R < t * D := by omega
  have ht : 1 ≤ t := by
    rcases Nat.eq_zero_or_pos t with rfl | h2
    · simp at h1
    · exact h2
  obtain ⟨u, rfl⟩ : ∃ u, t = u + 1 := ⟨t - 1, by omega⟩
  refine ⟨ht, h1, ?_⟩
  rw [Nat.add_sub_cancel]
  rw [Nat.add_mul] at h
  rcases Nat.lt_or_ge c 1 with h3 | h3
  · obtain rfl : c = 0 := by omega
    simp at e ⊢
    omega
  · obtain rfl : c = 1 := by omega
    simp at e ⊢
    omega
theorem more_than {t D R : Nat} (hD : 0 < D) (h : R < t * D) : R / D ≤ t - 1 := by
  have : R / D < t := (Nat.div_lt_iff_lt_mul hD).2 h
  omega
theorem all_taken {S D t R : Nat} (hD : 0 < D) (h : S + t * D = R) (hq : R / D ≤ t) : t = R / D ∧ S = R % D := by
  have h1 : t ≤ R / D := (Nat.le_div_iff_mul_le hD).2 (by omega)
  have h2 : t = R / D := by omega
  refine ⟨h2, ?_⟩
  have h3 := Nat.mod_add_div R D
  rw [← h2, Nat.mul_comm D t] at h3
  omega

/-- A guess by the highest limbs is not too small. -/
theorem guess_ge {R D P h l d : Nat} (hP : 0 < P) (hd : 0 < d) (hR : R < (h * M + l + 1) * P) (hD : d * P ≤ D) : R / D ≤ (h * M + l) / d := by
  have hDp : 0 < d * P := Nat.mul_pos hd hP
  have h1 : R / D ≤ R / (d * P) := Nat.div_le_div_left hD hDp
  have h2 : R / (d * P) = R / P / d := by rw [Nat.mul_comm, Nat.div_div_eq_div_mul]
  have h3 : R / P ≤ h * M + l := by
    have : R / P < h * M + l + 1 := (Nat.div_lt_iff_lt_mul hP).2 hR
    omega
  have h4 : R / P / d ≤ (h * M + l) / d := Nat.div_le_div_right h3
  omega

/-! ### Two limbs by one, by halves -/
theorem dig_all (Q y1 y0 : Nat) : Q * (y1 * 4294967296 + y0) = Q * y1 * 4294967296 + Q * y0 := by rw [Nat.mul_add, Nat.mul_assoc]
/-- Where the digit is too great. -/
theorem dig_more {Q R y1 y0 hi u1 : Nat} (h : Q * y1 + R = hi) (hq : hi < y1 * 4294967296 + y0) (hu : u1 < 4294967296) (hc : 4294967296 ≤ Q ∨ 4294967296 * R + u1 < Q * y0) : hi * 4294967296 + u1 < Q * (y1 * 4294967296 + y0) := by
  rcases hc with hc | hc
  · have h1 : 4294967296 * (y1 * 4294967296 + y0) ≤ Q * (y1 * 4294967296 + y0) := Nat.mul_le_mul_right _ hc
    omega
  · rw [dig_all]
    generalize Q * y1 = a at *
    generalize Q * y0 = b at *
    omega
theorem dig_not {Q R y1 y0 hi u1 : Nat} (h : Q * y1 + R = hi) (hc : Q * y0 ≤ 4294967296 * R + u1) : Q * (y1 * 4294967296 + y0) ≤ hi * 4294967296 + u1 := by
  rw [dig_all]
  generalize Q * y1 = a at *
  generalize Q * y0 = b at *
  omega
theorem dig_brk {Q R y0 u1 : Nat} (hQ : Q ≤ 4294967296) (hy : y0 < 4294967296) (hR : 4294967296 ≤ R) : Q * y0 ≤ 4294967296 * R + u1 := by
  have h1 : Q * y0 ≤ 4294967296 * 4294967295 := Nat.mul_le_mul hQ (by omega)
  omega
theorem dig_small {Q y0 : Nat} (hQ : Q < 4294967296) (hy : y0 < 4294967296) : Q * y0 < 18446744073709551616 := by
  have h1 : Q * y0 ≤ 4294967295 * 4294967295 := Nat.mul_le_mul (by omega) (by omega)
  omega
/-- Where the search begins. -/
theorem dig_start {y1 y0 hi u1 : Nat} (hy1 : 2147483648 ≤ y1) (hy0 : y0 < 4294967296) (hq : hi < y1 * 4294967296 + y0) (hu : u1 < 4294967296) :
    hi / y1 * y1 + hi % y1 = hi ∧ (hi * 4294967296 + u1) / (y1 * 4294967296 + y0) ≤ hi / y1 ∧ hi / y1 ≤ 4294967297 ∧ hi % y1 < y1 := by
  have hp : 0 < y1 := by omega
  have h1 := Nat.div_add_mod' hi y1
  have h2 := Nat.mod_lt hi hp
  refine ⟨h1, ?_, ?_, h2⟩
  · have h3 : hi * 4294967296 + u1 < (hi / y1 + 1) * (y1 * 4294967296 + y0) := by
      rw [dig_all, Nat.add_mul]
      generalize hi / y1 * y1 = a at *
      omega
    have := (Nat.div_lt_iff_lt_mul (by omega)).2 h3
    omega
  · have h3 : hi < 4294967298 * y1 := by omega
    have : hi / y1 < 4294967298 := (Nat.div_lt_iff_lt_mul hp).2 h3
    omega
theorem dig_less {Q U D : Nat} (hD : 0 < D) (h : U < Q * D) : 1 ≤ Q ∧ U / D ≤ Q - 1 := by
  have h1 : U / D < Q := (Nat.div_lt_iff_lt_mul hD).2 h
  clear h
  generalize U / D = q at *
  omega
theorem dig_is {Q U D : Nat} (hD : 0 < D) (h : Q * D ≤ U) (hq : U / D ≤ Q) : Q = U / D := by
  have h1 : Q ≤ U / D := (Nat.le_div_iff_mul_le hD).2 h
  omega
/-- Both digits together. -/
theorem dig_both {hi u1 u0 D : Nat} (hD : 0 < D) : (hi * 4294967296 + u1) / D * 4294967296 + ((hi * 4294967296 + u1) % D * 4294967296 + u0) / D = (hi * 18446744073709551616 + (u1 * 4294967296 + u0)) / D := by
  obtain ⟨A, hA⟩ : ∃ A, A = hi * 4294967296 + u1 := ⟨_, rfl⟩
  rw [← hA]
  have e1 := Nat.div_add_mod' A D
  have e2 : hi * 18446744073709551616 + (u1 * 4294967296 + u0) = (A % D * 4294967296 + u0) + A / D * 4294967296 * D := by
    rw [Nat.mul_right_comm]
    generalize A / D * D = q at *
    generalize A % D = r at *
    omega
  rw [e2, Nat.add_mul_div_right _ _ hD]
  exact Nat.add_comm _ _

end Go.Proofs.Ytkmlnglmecjmeaa.Num


/- Plain arithmetic of a long division, digit by digit. No condition but those that each theorem names. -/
namespace Go.Proofs.Ytkmlnglmecjmeaa.Num

theorem sm_top (f : Nat → Nat) (o k : Nat) : sm f o (k + 1) = f o + M * sm f (o + 1) k := by
  have e := sm_split f o 1 k
  rw [Nat.add_comm 1 k] at e
  rw [e]
  simp only [Nat.pow_one, sm_succ, sm_zero, Nat.pow_zero, Nat.one_mul, Nat.zero_add, Nat.add_zero]

/-- Limbs above the first m + 1 of a number below M ^ (m + 1) are noughts. -/
theorem high_nought {f : Nat → Nat} {o m k : Nat} (hk : m + 1 ≤ k) (h : sm f o k < M ^ (m + 1)) : sm f o (m + 1) = sm f o k ∧ sm f (o + (m + 1)) (k - (m + 1)) = 0 := by
  have e := sm_split f o (m + 1) (k - (m + 1))
  rw [Nat.add_sub_cancel' hk] at e
  have h0 : sm f (o + (m + 1)) (k - (m + 1)) = 0 := by
    rcases Nat.eq_zero_or_pos (sm f (o + (m + 1)) (k - (m + 1))) with h1 | h1
    · exact h1
    · have h2 : M ^ (m + 1) * 1 ≤ M ^ (m + 1) * sm f (o + (m + 1)) (k - (m + 1)) := Nat.mul_le_mul_left _ h1
      rw [Nat.mul_one] at h2
      generalize M ^ (m + 1) * sm f (o + (m + 1)) (k - (m + 1)) = Z at *
      generalize M ^ (m + 1) = P at *
      omega
  refine ⟨?_, h0⟩
  rw [e, h0, Nat.mul_zero]
  simp only [Nat.add_zero]

theorem div_lt {f : Nat → Nat} {i m n D : Nat} (hf : ∀ j, f j < M) (hD : D ≤ M ^ (m + 1)) (hi : i + (m + 1) ≤ n) (h : sm f (i + 1) (n - i) < D) : sm f i (m + 2) < M * D ∧ sm f i (m + 2) = sm f i (n + 1 - i) := by
  obtain ⟨h1, h2⟩ := high_nought (f := f) (o := i + 1) (m := m) (k := n - i) (by omega) (by omega)
  have e1 := sm_top f i (m + 1)
  have e2 := sm_top f i (n - i)
  have e3 : n - i + 1 = n + 1 - i := by omega
  rw [e3] at e2
  have e4 : m + 2 = m + 1 + 1 := rfl
  rw [e4, e1, e2, h1]
  refine ⟨?_, rfl⟩
  have h3 := hf i
  have h4 : M * (sm f (i + 1) (n - i) + 1) ≤ M * D := Nat.mul_le_mul_left _ h
  rw [Nat.mul_add] at h4
  omega

theorem div_arith {S Mi R D qd Q N : Nat} (e : S + Mi * R + D * (Mi * M) * Q = N) (hq : qd = R / D) : S + Mi * (R % D) + D * Mi * (qd + M * Q) = N := by
  have h := Nat.mod_add_div R D
  rw [← e, Nat.mul_add, hq]
  have e1 : Mi * R = Mi * (R % D) + D * Mi * (R / D) := by
    conv => lhs; rw [← h]
    rw [Nat.mul_add, Nat.mul_comm D Mi, Nat.mul_assoc]
  have e2 : D * Mi * (M * Q) = D * (Mi * M) * Q := by simp only [Nat.mul_assoc]
  rw [e1, e2]
  simp only [Nat.add_assoc]

theorem cut0 {X A P Z : Nat} (h : X = A + P * Z) (hz : Z = 0) : X = A := by
  subst hz
  simpa using h
theorem sm_at (f : Nat → Nat) (o : Nat) {j k : Nat} (h : j ≤ k) : sm f o k = sm f o j + M ^ j * sm f (o + j) (k - j) := by
  rw [← sm_split, Nat.add_sub_cancel' h]

theorem div_step {f f' q : Nat → Nat} {i m n t D N : Nat} (hf : ∀ j, f j < M) (hDp : 0 < D) (hD : D ≤ M ^ (m + 1)) (ht : t + m = n) (hi : i < t) (h : sm f (i + 1) (n - i) < D)
    (hN : sm f 0 (n + 1) + D * M ^ (i + 1) * sm q (i + 1) (t - (i + 1)) = N)
    (ho : ∀ j, (j < i ∨ i + (m + 2) ≤ j) → f' j = f j) (hR : sm f' i (m + 2) = sm f i (m + 2) % D) :
    sm f' i (n + 1 - i) < D ∧ sm f' 0 (n + 1) + D * M ^ i * sm (upd q i (sm f i (m + 2) / D)) i (t - i) = N := by
  obtain ⟨h1, h2⟩ := div_lt hf hD (by omega) h
  obtain ⟨_, h3⟩ := high_nought (f := f) (o := i + 1) (m := m) (k := n - i) (by omega) (by omega)
  have hz : sm f' (i + (m + 2)) (n + 1 - i - (m + 2)) = 0 := by
    have e : sm f' (i + (m + 2)) (n + 1 - i - (m + 2)) = sm f (i + (m + 2)) (n + 1 - i - (m + 2)) := sm_congr fun j _ => ho _ (by omega)
    rw [e]
    have e5 : i + 1 + (m + 1) = i + (m + 2) := by omega
    have e6 : n - i - (m + 1) = n + 1 - i - (m + 2) := by omega
    rw [e5, e6] at h3
    exact h3
  have e7 : sm f' i (n + 1 - i) = sm f i (m + 2) % D := (cut0 (sm_at f' i (by omega)) hz).trans hR
  refine ⟨by rw [e7]; exact Nat.mod_lt _ hDp, ?_⟩
  have s1 := sm_at f' 0 (show i ≤ n + 1 by omega)
  rw [Nat.zero_add, e7] at s1
  have s2 := sm_at f 0 (show i ≤ n + 1 by omega)
  rw [Nat.zero_add, ← h2] at s2
  have s3 : sm f' 0 i = sm f 0 i := sm_congr fun j hj => ho _ (by omega)
  have s4 := sm_top (upd q i (sm f i (m + 2) / D)) i (t - (i + 1))
  have s5 : t - (i + 1) + 1 = t - i := by omega
  have s6 : sm (upd q i (sm f i (m + 2) / D)) (i + 1) (t - (i + 1)) = sm q (i + 1) (t - (i + 1)) := sm_upd_out q _ (.inl (Nat.lt_succ_self i))
  rw [s5, upd_same, s6] at s4
  rw [s1, s3, s4]
  rw [s2, Nat.pow_succ] at hN
  exact div_arith hN rfl

/-- Where the division begins. -/
theorem div_start {f : Nat → Nat} {s a b m n t : Nat} (ht : t + m = n) (hN : sm f 0 (n + 1) = 2 ^ s * a) (ha : a < M ^ n) (hb : M ^ m ≤ b) : sm f t (m + 1) < 2 ^ s * b := by
  have e := sm_split f 0 t (m + 1)
  have e1 : t + (m + 1) = n + 1 := by omega
  rw [e1, hN, Nat.zero_add] at e
  have h1 : 2 ^ s * a < 2 ^ s * M ^ n := Nat.mul_lt_mul_of_pos_left ha (Nat.two_pow_pos s)
  have h2 : 2 ^ s * M ^ n ≤ 2 ^ s * b * M ^ t := by
    rw [← ht, Nat.add_comm t m, Nat.pow_add, ← Nat.mul_assoc]
    exact Nat.mul_le_mul_right _ (Nat.mul_le_mul_left _ hb)
  have h3 : sm f t (m + 1) * M ^ t < 2 ^ s * b * M ^ t := by
    rw [Nat.mul_comm (sm f t (m + 1))]
    omega
  exact Nat.lt_of_mul_lt_mul_right h3

/-- Where it ends. -/
theorem div_end {Q R s a b : Nat} (h : R + 2 ^ s * b * M ^ 0 * Q = 2 ^ s * a) (hR : R < 2 ^ s * b) : Q = a / b ∧ R / 2 ^ s = a % b := by
  have hp := Nat.two_pow_pos s
  rw [Nat.pow_zero, Nat.mul_one] at h
  have h1 : 2 ^ s * a / (2 ^ s * b) = Q := by
    rw [← h, Nat.add_mul_div_left _ _ (by omega), Nat.div_eq_of_lt hR, Nat.zero_add]
  have h2 : 2 ^ s * a % (2 ^ s * b) = R := by
    rw [← h, Nat.add_mul_mod_self_left, Nat.mod_eq_of_lt hR]
  rw [Nat.mul_div_mul_left _ _ hp] at h1
  rw [Nat.mul_mod_mul_left] at h2
  refine ⟨h1.symm, ?_⟩
  rw [← h2, Nat.mul_div_cancel_left _ hp]

theorem two_pow_M (k : Nat) : 2 ^ (64 * k) = M ^ k := by rw [Nat.pow_mul, ← M_two]

/-- A divisor with its highest bit moved to the top. -/
theorem norm_top {h : Nat → Nat} {b m s nb : Nat} (hh : ∀ j, h j < M) (e : sm h 0 (m + 1 + 1) = 2 ^ s * b) (hnb : s + nb = 64) (h1 : 1 ≤ nb) (lo : 2 ^ (64 * m + nb - 1) ≤ b) (hi : b < 2 ^ (64 * m + nb)) :
    sm h 0 (m + 1) = 2 ^ s * b ∧ 9223372036854775808 ≤ h m ∧ sm h 0 (m + 1) < M ^ (m + 1) := by
  have a1 : 2 ^ s * b < M ^ (m + 1) := by
    have : 2 ^ s * b < 2 ^ s * 2 ^ (64 * m + nb) := Nat.mul_lt_mul_of_pos_left hi (Nat.two_pow_pos s)
    rw [← Nat.pow_add, show s + (64 * m + nb) = 64 * (m + 1) by omega, two_pow_M] at this
    exact this
  have a2 : M ^ m * 9223372036854775808 ≤ 2 ^ s * b := by
    have : 2 ^ s * 2 ^ (64 * m + nb - 1) ≤ 2 ^ s * b := Nat.mul_le_mul_left _ lo
    rw [← Nat.pow_add, show s + (64 * m + nb - 1) = 64 * m + 63 by omega, Nat.pow_add, two_pow_M] at this
    exact this
  obtain ⟨h2, h3⟩ := high_nought (f := h) (o := 0) (m := m) (k := m + 1 + 1) (by omega) (by rw [e]; exact a1)
  rw [e] at h2
  refine ⟨h2, ?_, sm_lt hh _ _⟩
  have h4 := sm_lt hh 0 m
  rw [sm_succ, Nat.zero_add] at h2
  have h5 : M ^ m * 9223372036854775808 < M ^ m * (h m + 1) := by
    rw [Nat.mul_add]
    generalize M ^ m * h m = Z at *
    generalize M ^ m * 9223372036854775808 = Y at *
    omega
  have h6 := Nat.lt_of_mul_lt_mul_left h5
  omega

end Go.Proofs.Ytkmlnglmecjmeaa.Num


/- Plain arithmetic of the document's product and of its division bit by bit. No condition but those that each theorem names. -/
namespace Go.Proofs.Ytkmlnglmecjmeaa.Num

/-- A step of the document's product. -/
theorem ref_step {x y s c : Nat} (hx : x < M) (hy : y < M) (hs : s < M) (hc : c < M) :
    mulHi x y + addHi s (mulLo x y) 0 < M ∧ mulHi x y + addHi s (mulLo x y) 0 + addHi (addLo s (mulLo x y) 0) c 0 < M ∧
      addLo (addLo s (mulLo x y) 0) c 0 + M * (mulHi x y + addHi s (mulLo x y) 0 + addHi (addLo s (mulLo x y) 0) c 0) = x * y + s + c := by
  have h1 := mul_split x y
  have h2 := add_split s (mulLo x y) 0
  have h3 := add_split (addLo s (mulLo x y) 0) c 0
  have h4 := mul_most hx hy
  generalize x * y = P at *
  generalize addLo (addLo s (mulLo x y) 0) c 0 = n at *
  generalize addHi (addLo s (mulLo x y) 0) c 0 = d at *
  generalize addLo s (mulLo x y) 0 = l at *
  generalize addHi s (mulLo x y) 0 = e at *
  generalize mulHi x y = h at *
  generalize mulLo x y = q at *
  unfold M at *
  omega

theorem add_noughtN {c : Nat} (hc : c < M) : addLo 0 c 0 = c ∧ addHi 0 c 0 = 0 := by
  unfold addLo addHi
  rw [Nat.zero_add, show c + 0 = c from rfl]
  exact ⟨Nat.mod_eq_of_lt hc, Nat.div_eq_of_lt hc⟩

theorem upd_nought {f : Nat → Nat} {i : Nat} (h : f i = 0) : upd f i 0 = f := by
  funext j
  unfold upd
  split
  · rename_i e
    rw [e, h]
  · rfl

/-- One bit more of the number, and of the quotient. -/
theorem bit_more (A c : Nat) : A / 2 ^ c = 2 * (A / 2 ^ (c + 1)) + bitN A c := by
  unfold bitN
  rw [Nat.pow_succ, ← Nat.div_div_eq_div_mul]
  generalize A / 2 ^ c = p
  omega
theorem bit_rest {A B c r : Nat} (hr : r = A / 2 ^ (c + 1) % B) : (2 * r + bitN A c) % B = A / 2 ^ c % B := by
  rw [bit_more A c, hr, Nat.add_mod, Nat.mul_mod, Nat.mod_mod, ← Nat.mul_mod, ← Nat.add_mod]
theorem bit_le (A c : Nat) : bitN A c ≤ 1 := by
  unfold bitN
  omega
theorem bit_quo {A B c : Nat} (hB : 0 < B) : A / 2 ^ c / B = 2 * (A / 2 ^ (c + 1) / B) + (2 * (A / 2 ^ (c + 1) % B) + bitN A c) / B := by
  rw [bit_more A c]
  generalize A / 2 ^ (c + 1) = P
  have h := Nat.div_add_mod P B
  have e : 2 * P + bitN A c = (2 * (P % B) + bitN A c) + B * (2 * (P / B)) := by
    rw [Nat.mul_left_comm]
    generalize B * (P / B) = Z at *
    omega
  rw [e, Nat.add_mul_div_left _ _ hB, Nat.add_comm]
theorem bit_no {A B c : Nat} (hB : 0 < B) (h : 2 * (A / 2 ^ (c + 1) % B) + bitN A c < B) : A / 2 ^ c % B = 2 * (A / 2 ^ (c + 1) % B) + bitN A c ∧ A / 2 ^ c / B * 2 ^ c = A / 2 ^ (c + 1) / B * 2 ^ (c + 1) := by
  have h1 := bit_quo (A := A) (c := c) hB
  have h2 := bit_rest (A := A) (B := B) (c := c) rfl
  rw [Nat.mod_eq_of_lt h] at h2
  rw [Nat.div_eq_of_lt h] at h1
  refine ⟨h2.symm, ?_⟩
  rw [h1]
  generalize A / 2 ^ (c + 1) / B = Q
  rw [Nat.pow_succ]
  generalize 2 ^ c = P
  simp only [Nat.add_zero]
  rw [Nat.mul_comm 2 Q, Nat.mul_assoc, Nat.mul_comm P 2]
theorem bit_yes {A B c : Nat} (hB : 0 < B) (h : B ≤ 2 * (A / 2 ^ (c + 1) % B) + bitN A c) : A / 2 ^ c % B = 2 * (A / 2 ^ (c + 1) % B) + bitN A c - B ∧ A / 2 ^ c / B * 2 ^ c = A / 2 ^ (c + 1) / B * 2 ^ (c + 1) + 2 ^ c := by
  have h1 := bit_quo (A := A) (c := c) hB
  have h2 := bit_rest (A := A) (B := B) (c := c) rfl
  have h3 := Nat.mod_lt (A / 2 ^ (c + 1)) hB
  have h4 := bit_le A c
  have h5 : (2 * (A / 2 ^ (c + 1) % B) + bitN A c) / B = 1 := by
    refine Nat.div_eq_of_lt_le (by omega) (by omega)
  have h6 : (2 * (A / 2 ^ (c + 1) % B) + bitN A c) % B = 2 * (A / 2 ^ (c + 1) % B) + bitN A c - B := by
    rw [Nat.mod_eq_sub_mod h, Nat.mod_eq_of_lt (by omega)]
  rw [h6] at h2
  rw [h5] at h1
  refine ⟨h2.symm, ?_⟩
  rw [h1]
  generalize A / 2 ^ (c + 1) / B = Q
  rw [Nat.pow_succ]
  generalize 2 ^ c = P
  rw [Nat.add_mul, Nat.one_mul, Nat.mul_comm 2 Q, Nat.mul_assoc, Nat.mul_comm P 2]

/-- A limb of a row, off the number that the row is. -/
theorem sm_limb {f : Nat → Nat} {n j : Nat} (hf : ∀ j, f j < M) (hj : j < n) : f j = sm f 0 n / M ^ j % M := by
  have e := sm_split f 0 j (n - j)
  rw [Nat.zero_add, Nat.add_sub_cancel' (Nat.le_of_lt hj)] at e
  have e2 : n - j = (n - j - 1) + 1 := by omega
  have e3 := sm_top f j (n - j - 1)
  rw [← e2] at e3
  rw [e, Nat.add_mul_div_left _ _ (pow_M_pos j), Nat.div_eq_of_lt (sm_lt hf 0 j), Nat.zero_add, e3, Nat.add_mul_mod_self_left, Nat.mod_eq_of_lt (hf j)]

theorem sm_set {f : Nat → Nat} {n j v d : Nat} (hj : j < n) (e : v = f j + d) : sm (upd f j v) 0 n = sm f 0 n + M ^ j * d := by
  have s1 := sm_split (upd f j v) 0 j (n - j)
  have s2 := sm_split f 0 j (n - j)
  rw [Nat.zero_add, Nat.add_sub_cancel' (Nat.le_of_lt hj)] at s1 s2
  have e2 : n - j = (n - j - 1) + 1 := by omega
  have s3 := sm_top (upd f j v) j (n - j - 1)
  have s4 := sm_top f j (n - j - 1)
  rw [← e2] at s3 s4
  have s5 : sm (upd f j v) 0 j = sm f 0 j := sm_upd_out f v (.inr (Nat.le_of_eq (Nat.zero_add j)))
  have s6 : sm (upd f j v) (j + 1) (n - j - 1) = sm f (j + 1) (n - j - 1) := sm_upd_out f v (.inl (Nat.lt_succ_self j))
  rw [s1, s2, s3, s4, s5, s6, upd_same, e]
  simp only [Nat.mul_add]
  generalize M ^ j * f j = X
  generalize M ^ j * d = Y
  generalize M ^ j * (M * sm f (j + 1) (n - j - 1)) = Z
  omega

/-- The bit that the document sets was not set. -/
theorem bit_set {f : Nat → Nat} {n c Q : Nat} (hf : ∀ j, f j < M) (hc : c / 64 < n) (h : sm f 0 n = Q * 2 ^ (c + 1)) : ∃ y, f (c / 64) = 2 ^ (c % 64 + 1) * y := by
  have h1 := sm_limb hf hc
  rw [h] at h1
  have hp : M ^ (c / 64) = 2 ^ (64 * (c / 64)) := (two_pow_M _).symm
  have e : 2 ^ (c + 1) = 2 ^ (c % 64 + 1) * 2 ^ (64 * (c / 64)) := by
    rw [← Nat.pow_add]
    congr 1
    omega
  rw [hp, e, ← Nat.mul_assoc, Nat.mul_div_cancel _ (Nat.two_pow_pos _)] at h1
  have e2 : M = 2 ^ (c % 64 + 1) * 2 ^ (63 - c % 64) := by
    rw [← Nat.pow_add, M_two]
    congr 1
    omega
  rw [e2, Nat.mul_comm Q, Nat.mul_mod_mul_left] at h1
  exact ⟨_, h1⟩
theorem two_place (c : Nat) : M ^ (c / 64) * 2 ^ (c % 64) = 2 ^ c := by
  rw [← two_pow_M, ← Nat.pow_add]
  congr 1
  omega

end Go.Proofs.Ytkmlnglmecjmeaa.Num


/- Plain arithmetic of what powers leave, of Montgomery's products, and of an odd limb's inverse. No condition but those that each theorem names. -/
namespace Go.Proofs.Ytkmlnglmecjmeaa.Num
set_option linter.unusedVariables false

/-- What a to the power of e leaves of m. -/
@[irreducible] def pm (a e m : Nat) : Nat := a ^ e % m
theorem pm_is (a e m : Nat) : pm a e m = a ^ e % m := by unfold pm; rfl
theorem pm_zero (a m : Nat) : pm a 0 m = 1 % m := by rw [pm_is, Nat.pow_zero]
theorem pm_one (a m : Nat) : pm a 1 m = a % m := by rw [pm_is, Nat.pow_one]
theorem pm_add (a e f m : Nat) : pm a (e + f) m = pm a e m * pm a f m % m := by rw [pm_is, pm_is, pm_is, Nat.pow_add, Nat.mul_mod]
theorem pm_succ (a e m : Nat) : pm a (e + 1) m = pm a e m * a % m := by rw [pm_add, pm_one, Nat.mul_mod_mod]
theorem pm_lt (a e : Nat) {m : Nat} (h : 0 < m) : pm a e m < m := by rw [pm_is]; exact Nat.mod_lt _ h
theorem pm_mod (a e m : Nat) : pm (a % m) e m = pm a e m := by rw [pm_is, pm_is, ← Nat.pow_mod]
theorem pm_same {a b m : Nat} (e : Nat) (h : a % m = b % m) : pm a e m = pm b e m := by rw [← pm_mod a, h, pm_mod]
theorem pm_mul (a e f m : Nat) : pm a (e * f) m = pm (pm a e m) f m := by
  rw [pm_is, pm_is, pm_is, Nat.pow_mul, ← Nat.pow_mod]
theorem pm_prod (a b e m : Nat) : pm (a * b) e m = pm a e m * pm b e m % m := by
  rw [pm_is, pm_is, pm_is, Nat.mul_pow, Nat.mul_mod]
theorem pm_self (a e m : Nat) : pm a e m % m = pm a e m := by rw [pm_is, Nat.mod_mod]
theorem pm_ones (e m : Nat) : pm 1 e m = 1 % m := by rw [pm_is, Nat.one_pow]
theorem pm_nought {e : Nat} (m : Nat) (h : e ≠ 0) : pm 0 e m = 0 := by rw [pm_is, Nat.zero_pow (by omega), Nat.zero_mod]

/-- A power by the exponent's bits, the highest first. -/
def nb (l : List Bool) : Nat := l.foldl (fun n b => 2 * n + b.toNat) 0
def pe (a m : Nat) (l : List Bool) : Nat := l.foldl (fun r b => if b then r * r % m * a % m else r * r % m) (1 % m)
theorem nb_snoc (l : List Bool) (b : Bool) : nb (l ++ [b]) = 2 * nb l + b.toNat := by simp [nb]
theorem pe_snoc (a m : Nat) (l : List Bool) (b : Bool) : pe a m (l ++ [b]) = if b then pe a m l * pe a m l % m * a % m else pe a m l * pe a m l % m := by simp [pe]
theorem snoc_all {P : List Bool → Prop} (h0 : P []) (hs : ∀ l x, P l → P (l ++ [x])) : ∀ l, P l := by
  intro l
  have : ∀ r : List Bool, P r.reverse := by
    intro r
    induction r with
    | nil => exact h0
    | cons x r ih => rw [List.reverse_cons]; exact hs _ _ ih
  have h := this l.reverse
  rwa [List.reverse_reverse] at h
theorem pe_is (a m : Nat) : ∀ l, pm a (nb l) m = pe a m l := by
  apply snoc_all
  · exact pm_zero a m
  · intro l b ih
    rw [nb_snoc, pe_snoc, ← ih]
    cases b with
    | false => rw [Bool.toNat_false, Nat.add_zero, Nat.two_mul, pm_add]; rfl
    | true => rw [Bool.toNat_true, pm_succ, Nat.two_mul, pm_add]; rfl

theorem half_step (n i : Nat) : n / 2 ^ i = n / 2 ^ (i + 1) + n / 2 ^ (i + 1) + bitN n i := by
  unfold bitN
  rw [Nat.pow_succ, ← Nat.div_div_eq_div_mul]
  omega
theorem half_zero (n : Nat) : n / 2 ^ 0 = n := by rw [Nat.pow_zero, Nat.div_one]
theorem half_top (n : Nat) : n / 2 ^ nbits n = 0 := Nat.div_eq_of_lt (nbits_le.1 (Nat.le_refl _))

/-! Montgomery's products -/
theorem sm_low (f : Nat → Nat) (o k : Nat) : sm f o (k + 1) = f o + M * sm f (o + 1) k := by
  rw [Nat.add_comm k 1, sm_split]
  have : sm f o 1 = f o := by simp [sm]
  rw [this, Nat.pow_one]
theorem low_is {f : Nat → Nat} (h : ∀ j, f j < M) (o k : Nat) : sm f o (k + 1) % M = f o := by
  rw [sm_low, Nat.add_mul_mod_self_left, Nat.mod_eq_of_lt (h o)]
theorem val_low {xs : List Nat} (h : Ok xs) (hp : 0 < xs.length) : val xs % M = lat xs 0 := by
  obtain ⟨k, hk⟩ : ∃ k, xs.length = k + 1 := ⟨xs.length - 1, by omega⟩
  rw [val_sm, hk, low_is (ok_get h)]

theorem carry_lo (c1 c2 c : Nat) : addLo (addLo c1 c2 0) 0 c = (c1 + c2 + c) % M := by unfold addLo M; omega
theorem carry_hi (c1 c2 c : Nat) : addHi (addLo c1 c2 0) 0 c + addHi c1 c2 0 = (c1 + c2 + c) / M := by unfold addLo addHi M; omega
theorem carry_le {c1 c2 c : Nat} (h1 : c1 < M) (h2 : c2 < M) (h : c ≤ 1) : (c1 + c2 + c) / M ≤ 1 := by unfold M at *; omega

theorem mont_alg {P Q V x y u m X q V' : Nat} (h : Q * V = X * y + q * m) (e : M * V' = V + x * y + u * m) : Q * M * V' = (X + Q * x) * y + (q + Q * u) * m := by
  rw [Nat.mul_assoc, e, Nat.mul_add, Nat.mul_add, h, Nat.add_mul, Nat.add_mul, Nat.mul_assoc, Nat.mul_assoc]
  omega
theorem mont_sum {A B c c1 c2 P x y u m F F' : Nat} (h1 : A + P * c1 = B + x * y) (h2 : F + P * c2 = A + u * m) (hF : F = M * F') : M * F' + P * (c1 + c2 + c) = (B + P * c) + x * y + u * m := by
  rw [Nat.mul_add, Nat.mul_add]
  omega
theorem mont_top {T P M' F' : Nat} : M' * F' + P * M' * (T % M') + P * M' * (M' * (T / M')) = M' * F' + P * M' * T := by
  rw [Nat.add_assoc, ← Nat.mul_add, Nat.mod_add_div]
theorem mont_top2 {T P M' F' : Nat} : M' * (F' + P * (T % M') + P * M' * (T / M')) = M' * F' + P * M' * T := by
  rw [← mont_top, Nat.mul_add, Nat.mul_add]
  congr 1
  · congr 1
    rw [← Nat.mul_assoc, Nat.mul_comm M' P]
  · rw [← Nat.mul_assoc, ← Nat.mul_assoc, ← Nat.mul_assoc, Nat.mul_comm M' P]

/-- One round: what lies from the k-th limb on, before and after. -/
theorem mont_round {f f1 f2 : Nat → Nat} {L k c c1 c2 x u X y m q : Nat} (hf2 : ∀ j, f2 j < M)
    (h : M ^ k * (sm f k (L + 1) + M ^ (L + 1) * c) = X * y + q * m)
    (h1 : sm f1 k (L + 1) + M ^ (L + 1) * c1 = sm f k (L + 1) + x * y) (h2 : sm f2 k (L + 1) + M ^ (L + 1) * c2 = sm f1 k (L + 1) + u * m)
    (hz : f2 k = 0) :
    M ^ (k + 1) * (sm (upd f2 (k + (L + 1)) ((c1 + c2 + c) % M)) (k + 1) (L + 1) + M ^ (L + 1) * ((c1 + c2 + c) / M)) = (X + M ^ k * x) * y + (q + M ^ k * u) * m := by
  have hF := sm_low f2 k L
  rw [hz, Nat.zero_add] at hF
  have hs := mont_sum (c := c) h1 h2 hF
  rw [show k + (L + 1) = (k + 1) + L by omega, sm_upd_last]
  rw [Nat.pow_succ]
  refine mont_alg (P := 0) h ?_
  rw [Nat.pow_succ] at hs ⊢
  rw [← hs]
  exact mont_top2

/-- Why the lowest limb is nought. -/
theorem mont_low {f1 f2 : Nat → Nat} {L k c2 u m n : Nat} (hf1 : ∀ j, f1 j < M) (hf2 : ∀ j, f2 j < M)
    (h2 : sm f2 k (L + 1) + M ^ (L + 1) * c2 = sm f1 k (L + 1) + u * m) (hm : m % M = n) (hu : (f1 k + u * n) % M = 0) : f2 k = 0 := by
  have e : (sm f2 k (L + 1) + M ^ (L + 1) * c2) % M = (sm f1 k (L + 1) + u * m) % M := by rw [h2]
  rw [Nat.pow_succ, Nat.mul_comm _ M, Nat.mul_assoc, Nat.add_mul_mod_self_left, low_is hf2, Nat.add_mod, low_is hf1, Nat.mul_mod u m, hm] at e
  rw [e, Nat.mod_mul_mod, Nat.add_mod_mod, hu]

theorem mont_bound {R V X y m q : Nat} (hR : 0 < R) (h : R * V = X * y + q * m) (hX : X < R) (hq : q < R) (hy : 0 < y + m) : V < y + m := by
  have h1 : X * y + y ≤ R * y := by rw [← Nat.succ_mul]; exact Nat.mul_le_mul_right _ hX
  have h2 : q * m + m ≤ R * m := by rw [← Nat.succ_mul]; exact Nat.mul_le_mul_right _ hq
  have h3 : R * V < R * (y + m) := by rw [Nat.mul_add]; omega
  exact Nat.lt_of_mul_lt_mul_left h3

/-- What is left when the odd number was taken off. -/
theorem mont_off {R S m y S' b : Nat} (hb : b ≤ 1) (h : S + R * 1 < y + m) (hy : y < R) (e : S' + m = S + R * b) (hS' : S' < R) : S' + m = S + R * 1 := by
  rcases Nat.lt_or_ge b 1 with hb1 | hb1
  · have : b = 0 := by omega
    subst this
    rw [Nat.mul_zero] at e
    omega
  · have : b = 1 := by omega
    subst this
    exact e
theorem mont_left {R V X y m q S : Nat} (h : R * V = X * y + q * m) (e : S = V ∨ S + m = V) : S * R % m = X * y % m := by
  have h1 : V * R % m = X * y % m := by rw [Nat.mul_comm, h, Nat.add_mul_mod_self_right]
  rcases e with rfl | e
  · exact h1
  · rw [← h1, ← e, Nat.add_mul, Nat.mul_comm m R, Nat.add_mul_mod_self_right]

theorem q_next {q k u : Nat} (hq : q < M ^ k) (hu : u < M) : q + M ^ k * u < M ^ (k + 1) := by
  have h : M ^ k * (u + 1) ≤ M ^ k * M := Nat.mul_le_mul_left _ hu
  rw [Nat.mul_add, Nat.mul_one] at h
  rw [Nat.pow_succ]
  omega

/-- Of an odd number: what is as much times a power of 2^64 is as much. -/
theorem odd_unit {m : Nat} (h : m % 2 = 1) (L : Nat) : ∃ r, M ^ L * r % m = 1 % m := by
  refine ⟨((m + 1) / 2) ^ (64 * L), ?_⟩
  rw [M_pow, ← Nat.mul_pow, show 2 * ((m + 1) / 2) = m + 1 by omega, Nat.pow_mod, Nat.add_mod_left, ← Nat.pow_mod, Nat.one_pow]
theorem odd_cancel {m a b : Nat} (h : m % 2 = 1) (L : Nat) (e : a * M ^ L % m = b * M ^ L % m) : a % m = b % m := by
  obtain ⟨r, hr⟩ := odd_unit h L
  have k : ∀ x, x * M ^ L * r % m = x % m := fun x => by rw [Nat.mul_assoc, Nat.mul_mod, hr, ← Nat.mul_mod, Nat.mul_one]
  rw [← k a, ← k b, Nat.mul_mod, e, ← Nat.mul_mod]

/-- A product of lifted numbers is lifted. -/
theorem mont_up {m a k l L x y r : Nat} (h : m % 2 = 1) (hx : x % m = pm a k m * M ^ L % m) (hy : y % m = pm a l m * M ^ L % m) (hr : r * M ^ L % m = x * y % m) : r % m = pm a (k + l) m * M ^ L % m := by
  apply odd_cancel h L
  rw [hr, Nat.mul_mod, hx, hy, ← Nat.mul_mod, pm_add, Nat.mul_assoc _ (M ^ L) (M ^ L), Nat.mod_mul_mod]
  congr 1
  rw [Nat.mul_assoc, Nat.mul_assoc, Nat.mul_left_comm (M ^ L)]
/-- Times 1 it is not lifted any more. -/
theorem mont_down {m a k L x r : Nat} (h : m % 2 = 1) (hx : x % m = pm a k m * M ^ L % m) (hr : r * M ^ L % m = x * 1 % m) : r % m = pm a k m := by
  rw [← pm_self a k m]
  apply odd_cancel h L
  rw [hr, Nat.mul_one, hx]

/-! An odd limb's inverse -/
theorem two_dvd {p q : Nat} (h : p ≤ q) : (2 : Int) ^ p ∣ 2 ^ q := ⟨2 ^ (q - p), by rw [← Int.pow_add]; congr 1; omega⟩
theorem newton {a n : Int} {p q : Nat} (h : (2 : Int) ^ p ∣ a * n - 1) (hq : q ≤ 2 * p) (hq64 : q ≤ 64) : (2 : Int) ^ q ∣ a * (n * ((2 - a * n % 18446744073709551616) % 18446744073709551616) % 18446744073709551616) - 1 := by
  have d64 : (2 : Int) ^ q ∣ 18446744073709551616 := by
    rw [show (18446744073709551616 : Int) = 2 ^ 64 by decide]
    exact two_dvd hq64
  have d2 : (2 : Int) ^ q ∣ (a * n - 1) * (a * n - 1) := by
    refine Int.dvd_trans (two_dvd hq) ?_
    rw [Nat.two_mul, Int.pow_add]
    exact Int.mul_dvd_mul h h
  have e1 : ∀ z : Int, ∃ t, z % 18446744073709551616 = z - 18446744073709551616 * t := fun z => ⟨z / 18446744073709551616, Int.emod_def _ _⟩
  obtain ⟨t1, h1⟩ := e1 (a * n)
  rw [h1]
  obtain ⟨t2, h2⟩ := e1 (2 - (a * n - 18446744073709551616 * t1))
  rw [h2]
  obtain ⟨t3, h3⟩ := e1 (n * (2 - (a * n - 18446744073709551616 * t1) - 18446744073709551616 * t2))
  rw [h3]
  have e : a * (n * (2 - (a * n - 18446744073709551616 * t1) - 18446744073709551616 * t2) - 18446744073709551616 * t3) - 1 = 18446744073709551616 * (a * (n * (t1 - t2) - t3)) - (a * n - 1) * (a * n - 1) := by
    grind
  rw [e]
  exact Int.dvd_sub (Int.dvd_trans d64 (Int.dvd_mul_right _ _)) d2

def nbit (k : Nat) : Nat := if k = 5 then 64 else 3 * 2 ^ k
theorem nbit_next {k : Nat} (h : k < 5) : nbit (k + 1) ≤ 2 * nbit k ∧ nbit (k + 1) ≤ 64 := by
  have : k = 0 ∨ k = 1 ∨ k = 2 ∨ k = 3 ∨ k = 4 := by omega
  rcases this with rfl | rfl | rfl | rfl | rfl <;> decide
theorem newton_start {a : Nat} (h : a % 2 = 1) : (2 : Int) ^ nbit 0 ∣ (a : Int) * (a : Int) - 1 := by
  have e : (2 : Int) ^ nbit 0 = 8 := by decide
  rw [e]
  obtain ⟨q, r, hq, hr⟩ : ∃ q r, a = 8 * q + r ∧ (r = 1 ∨ r = 3 ∨ r = 5 ∨ r = 7) := ⟨a / 8, a % 8, by omega, by omega⟩
  have e2 : (a : Int) * a = 8 * (8 * q * q + 2 * q * r) + r * r := by
    rw [hq]
    push_cast
    grind
  rw [e2]
  refine (Int.dvd_iff_emod_eq_zero).2 ?_
  rcases hr with rfl | rfl | rfl | rfl <;> omega
theorem newton_end {a n : Nat} (h : (2 : Int) ^ nbit 5 ∣ (a : Int) * (n : Int) - 1) : a * n % M = 1 := by
  have e : (2 : Int) ^ nbit 5 = 18446744073709551616 := by decide
  rw [e] at h
  unfold M
  have h2 : ((a * n : Nat) : Int) = (a : Int) * n := Int.natCast_mul a n
  omega

/-- The multiple of an odd number that makes a limb nought. -/
def mulU (s i : Nat) : Nat := ((M - s) % M) * i % M
theorem mulU_lt (s i : Nat) : mulU s i < M := Nat.mod_lt _ M_pos
theorem mulU_low {s i n : Nat} (hs : s < M) (h : n * i % M = 1) : (s + mulU s i * n) % M = 0 := by
  unfold mulU
  rw [Nat.add_mod, Nat.mod_mul_mod, Nat.mul_assoc, Nat.mul_comm i n, Nat.mul_mod, h, Nat.mul_one, Nat.mod_mod, Nat.mod_mod, ← Nat.add_mod]
  unfold M at *
  omega

end Go.Proofs.Ytkmlnglmecjmeaa.Num


/- Numbers as bytes, the highest first, in plain arithmetic: the number of bytes, the bytes of a number, where a byte stands in its limb. No condition. -/
namespace Go.Proofs.Ytkmlnglmecjmeaa.Num
set_option linter.unusedVariables false

/-- The number of bytes. -/
def bval (l : List UInt8) : Nat := l.foldl (fun a b => 256 * a + b.toNat) 0
theorem bval_nil : bval [] = 0 := rfl
theorem bval_snoc (l : List UInt8) (b : UInt8) : bval (l ++ [b]) = 256 * bval l + b.toNat := by simp [bval]
theorem byte_lt (b : UInt8) : b.toNat < 256 := b.toNat_lt
theorem bval_lt (l : List UInt8) : bval l < 256 ^ l.length := by
  induction l using snoc_ind with
  | h0 => decide
  | hs l b ih =>
    rw [bval_snoc, List.length_append, List.length_singleton, Nat.pow_succ]
    have := byte_lt b
    omega
theorem bval_cons (b : UInt8) (l : List UInt8) : bval (b :: l) = b.toNat * 256 ^ l.length + bval l := by
  induction l using snoc_ind with
  | h0 => simp [bval]
  | hs l c ih =>
    rw [← List.cons_append, bval_snoc, ih, bval_snoc, List.length_append, List.length_singleton, Nat.pow_succ, Nat.mul_add, ← Nat.mul_assoc, ← Nat.add_assoc]
    congr 2
    rw [Nat.mul_comm 256, Nat.mul_assoc]
    congr 1
    exact Nat.mul_comm _ _
theorem bval_zero_cons (l : List UInt8) : bval (0 :: l) = bval l := by rw [bval_cons]; simp

/-- k bytes of a number. -/
def digs : Nat → Nat → List UInt8
  | 0, _ => []
  | k + 1, n => digs k (n / 256) ++ [UInt8.ofNat n]
theorem digs_length : ∀ k n, (digs k n).length = k
  | 0, _ => rfl
  | k + 1, n => by simp [digs, digs_length k]
theorem ofNat_mod (n : Nat) : (UInt8.ofNat n).toNat = n % 256 := by simp
theorem bval_digs : ∀ k n, bval (digs k n) = n % 256 ^ k
  | 0, n => by simp [digs, bval, Nat.mod_one]
  | k + 1, n => by
    rw [digs, bval_snoc, bval_digs k, ofNat_mod, Nat.pow_succ, Nat.mul_comm (256 ^ k), Nat.mod_mul]
    omega
theorem ofNat_eq {a b : Nat} (h : a % 256 = b % 256) : UInt8.ofNat a = UInt8.ofNat b := by
  apply UInt8.toNat_inj.1
  rw [ofNat_mod, ofNat_mod, h]
theorem ofNat_toNat (b : UInt8) : UInt8.ofNat b.toNat = b := by simp
theorem digs_bval (l : List UInt8) : digs l.length (bval l) = l := by
  induction l using snoc_ind with
  | h0 => rfl
  | hs l b ih =>
    have hb := byte_lt b
    rw [List.length_append, List.length_singleton, digs, bval_snoc]
    have e1 : (256 * bval l + b.toNat) / 256 = bval l := by omega
    have e2 : UInt8.ofNat (256 * bval l + b.toNat) = b := by
      rw [← ofNat_toNat b]
      apply ofNat_eq
      rw [ofNat_toNat]
      omega
    rw [e1, e2, ih]
theorem digs_get : ∀ (k n i : Nat), i < k → (digs k n)[i]? = some (UInt8.ofNat (n / 256 ^ (k - 1 - i)))
  | 0, _, _, h => by omega
  | k + 1, n, i, h => by
    rw [digs]
    by_cases hi : i < k
    · rw [List.getElem?_append_left (by rw [digs_length]; exact hi), digs_get k _ i hi, Nat.div_div_eq_div_mul, Nat.mul_comm, ← Nat.pow_succ]
      congr 4
      omega
    · have e : i = k := by omega
      subst e
      rw [List.getElem?_append_right (by rw [digs_length]; omega), digs_length]
      simp

/-- How many byts a number has. -/
def nbyt (n : Nat) : Nat := (nbits n + 7) / 8
theorem pow_256 (k : Nat) : 256 ^ k = 2 ^ (8 * k) := by rw [show (256 : Nat) = 2 ^ 8 from rfl, ← Nat.pow_mul]
theorem nbyt_le {n k : Nat} : nbyt n ≤ k ↔ n < 256 ^ k := by
  rw [pow_256, ← nbits_le]
  unfold nbyt
  omega
theorem pow_256_pos (k : Nat) : 0 < 256 ^ k := Nat.pow_pos (by omega)
theorem nbyt_zero : nbyt 0 = 0 := rfl
theorem nbyt_is {n k : Nat} (h1 : 256 ^ k ≤ n) (h2 : n < 256 ^ (k + 1)) : nbyt n = k + 1 := by
  have a := nbyt_le.2 h2
  have b : ¬ nbyt n ≤ k := fun h => by have := nbyt_le.1 h; omega
  omega
theorem nbyt_mono {a b : Nat} (h : nbyt a < nbyt b) : a < b := by
  rcases Nat.lt_or_ge a b with h1 | h1
  · exact h1
  · have := nbyt_le.2 (Nat.lt_of_le_of_lt h1 (nbyt_le.1 (Nat.le_refl (nbyt a))))
    omega

/-- The bytes of a number, no nought on top. -/
def byts (n : Nat) : List UInt8 := digs (nbyt n) n
theorem byts_length (n : Nat) : (byts n).length = nbyt n := digs_length _ _
theorem bval_bytes (n : Nat) : bval (byts n) = n := by
  unfold byts
  rw [bval_digs]
  exact Nat.mod_eq_of_lt (nbyt_le.1 (Nat.le_refl _))
theorem byts_inj {a b : Nat} (h : byts a = byts b) : a = b := by rw [← bval_bytes a, h, bval_bytes]
theorem byts_zero : byts 0 = [] := rfl
theorem byts_nil {n : Nat} (h : byts n = []) : n = 0 := by rw [← bval_bytes n, h]; rfl

/-- Whether bytes are just a number's. -/
def whole : List UInt8 → Bool
  | [] => true
  | b :: _ => b != 0
theorem whole_yes {l : List UInt8} (h : whole l = true) : byts (bval l) = l := by
  cases l with
  | nil => rfl
  | cons b t =>
    have hb : b.toNat ≠ 0 := by
      intro e
      have e2 : b = 0 := by apply UInt8.toNat_inj.1; rw [e]; rfl
      subst e2
      simp [whole] at h
    have h1 : 256 ^ t.length ≤ bval (b :: t) := by
      rw [bval_cons]
      have : 1 * 256 ^ t.length ≤ b.toNat * 256 ^ t.length := Nat.mul_le_mul_right _ (by omega)
      omega
    have h2 := nbyt_is h1 (bval_lt (b :: t))
    unfold byts
    rw [h2]
    exact digs_bval (b :: t)
theorem whole_no {l : List UInt8} (h : whole l = false) : byts (bval l) ≠ l := by
  cases l with
  | nil => simp [whole] at h
  | cons b t =>
    have hb : b = 0 := by simpa [whole] using h
    subst hb
    intro e
    have e1 := congrArg List.length e
    rw [byts_length, bval_zero_cons] at e1
    have e2 := nbyt_le.2 (bval_lt t)
    simp at e1
    omega
theorem whole_bytes (n : Nat) : whole (byts n) = true := by
  cases h : whole (byts n) with
  | true => rfl
  | false => exact absurd (by rw [bval_bytes]) (whole_no h)
theorem whole_is (l : List UInt8) : (byts (bval l) == l) = whole l := by
  cases h : whole l with
  | true => rw [whole_yes h]; simp
  | false => simpa using whole_no h

/-- One byte more below. -/
theorem byts_snoc (m c : Nat) (hc : c < 256) (h : m ≠ 0 ∨ c ≠ 0) : byts (256 * m + c) = byts m ++ [UInt8.ofNat c] := by
  have e : nbyt (256 * m + c) = nbyt m + 1 := by
    have a : nbyt (256 * m + c) ≤ nbyt m + 1 := by
      rw [nbyt_le, Nat.pow_succ]
      have := nbyt_le.1 (Nat.le_refl (nbyt m))
      omega
    rcases Nat.eq_zero_or_pos (nbyt m) with h0 | h0
    · have b : ¬ nbyt (256 * m + c) ≤ 0 := fun h1 => by have := nbyt_le.1 h1; simp at this; omega
      omega
    · obtain ⟨k, hk⟩ : ∃ k, nbyt m = k + 1 := ⟨nbyt m - 1, by omega⟩
      have b : ¬ nbyt (256 * m + c) ≤ nbyt m := fun h1 => by
        rw [hk, nbyt_le, Nat.pow_succ] at h1
        have h2 : m < 256 ^ k := by omega
        have := nbyt_le.2 h2
        omega
      omega
  unfold byts
  rw [e, digs]
  have e1 : (256 * m + c) / 256 = m := by omega
  rw [e1, ofNat_eq (a := 256 * m + c) (b := c) (by omega)]

/-- The limb at j of a number. -/
def lim (n j : Nat) : Nat := n / M ^ j % M
theorem lim_lt (n j : Nat) : lim n j < M := Nat.mod_lt _ M_pos
theorem lat_val : ∀ (xs : List Nat) (h : Ok xs) (j : Nat), lat xs j = lim (val xs) j
  | [], _, j => by simp [lat, lim, val]
  | x :: t, h, j => by
    have hx : x < M := h x (by simp)
    have ht : Ok t := fun y hy => h y (by simp [hy])
    have hp := M_pos
    cases j with
    | zero =>
      simp [lat, lim, val, Nat.mod_eq_of_lt hx]
    | succ j =>
      have e : lat (x :: t) (j + 1) = lat t j := by simp [lat]
      rw [e, lat_val t ht j]
      unfold lim
      rw [show val (x :: t) = x + M * val t from rfl, Nat.pow_succ, Nat.mul_comm (M ^ j), ← Nat.div_div_eq_div_mul, Nat.add_mul_div_left _ _ hp, Nat.div_eq_of_lt hx, Nat.zero_add]
theorem M_256 : M = 256 ^ 8 := by decide
theorem M_pow_256 (j : Nat) : M ^ j = 256 ^ (8 * j) := by rw [M_256, ← Nat.pow_mul]
theorem pow_dvd {a b : Nat} (h : a ≤ b) : 256 ^ a ∣ 256 ^ b := Nat.pow_dvd_pow 256 h
theorem pow_split_256 {a b : Nat} (h : a ≤ b) : 256 ^ b = 256 ^ a * 256 ^ (b - a) := by rw [← Nat.pow_add]; congr 1; omega
/-- A byte of a limb is the number's. -/
theorem lim_byte (n p : Nat) : lim n (p / 8) / 256 ^ (p % 8) % 256 = n / 256 ^ p % 256 := by
  have hr : p % 8 < 8 := Nat.mod_lt _ (by omega)
  unfold lim
  have e1 : M = 256 ^ (p % 8) * 256 ^ (8 - p % 8) := by rw [M_256]; exact pow_split_256 (by omega)
  have e2 : n / M ^ (p / 8) / 256 ^ (p % 8) = n / 256 ^ p := by
    rw [Nat.div_div_eq_div_mul, M_pow_256, ← Nat.pow_add]
    congr 2
    omega
  generalize n / M ^ (p / 8) = x at *
  rw [e1, Nat.mod_mul_right_div_self, e2]
  apply Nat.mod_mod_of_dvd
  exact ⟨256 ^ (8 - p % 8 - 1), by rw [← Nat.pow_succ']; congr 1; omega⟩

/-- A byte laid below: elsewhere nothing turns. -/
theorem lim_other (A b p j : Nat) (hb : b < 256) (hj : j ≠ p / 8) : lim (256 ^ (p + 1) * A + b * 256 ^ p) j = lim (256 ^ (p + 1) * A) j := by
  unfold lim
  rcases Nat.lt_or_ge j (p / 8) with h | h
  · rw [← Nat.mod_mul_right_div_self, ← Nat.mod_mul_right_div_self]
    have e : M ^ j * M = 256 ^ (8 * (j + 1)) := by rw [← Nat.pow_succ, M_pow_256]
    rw [e]
    obtain ⟨z, hz⟩ := pow_dvd (a := 8 * (j + 1)) (b := p) (by omega)
    rw [hz, show b * (256 ^ (8 * (j + 1)) * z) = 256 ^ (8 * (j + 1)) * (b * z) from by rw [Nat.mul_left_comm], Nat.add_mul_mod_self_left]
  · have e : M ^ j = 256 ^ (p + 1) * 256 ^ (8 * j - (p + 1)) := by rw [M_pow_256]; exact pow_split_256 (by omega)
    have hP := pow_256_pos (p + 1)
    rw [e, ← Nat.div_div_eq_div_mul, ← Nat.div_div_eq_div_mul, Nat.mul_add_div hP, Nat.mul_div_cancel_left _ hP]
    have : b * 256 ^ p / 256 ^ (p + 1) = 0 := by
      apply Nat.div_eq_of_lt
      rw [Nat.pow_succ, Nat.mul_comm]
      exact Nat.mul_lt_mul_of_pos_left hb (pow_256_pos p)
    rw [this, Nat.add_zero]
theorem mul_three (a b c : Nat) : a * (b * c) = b * (a * c) := Nat.mul_left_comm a b c
/-- .. and at its limb it is laid in. -/
theorem lim_here (A b p : Nat) (hb : b < 256) : lim (256 ^ (p + 1) * A + b * 256 ^ p) (p / 8) = lim (256 ^ (p + 1) * A) (p / 8) ||| b * 2 ^ (8 * (p % 8)) ∧ b * 2 ^ (8 * (p % 8)) < M := by
  have hr : p % 8 < 8 := Nat.mod_lt _ (by omega)
  have hP := pow_256_pos (8 * (p / 8))
  generalize hq : p / 8 = q at *
  generalize hs : p % 8 = r at *
  have hp : p = 8 * q + r := by omega
  unfold lim
  rw [M_pow_256, ← pow_256 r]
  have e1 : 256 ^ (p + 1) * A = 256 ^ (8 * q) * (256 ^ (r + 1) * A) := by rw [← Nat.mul_assoc, ← Nat.pow_add]; congr 2; omega
  have e2 : b * 256 ^ p = 256 ^ (8 * q) * (b * 256 ^ r) := by rw [mul_three, ← Nat.pow_add]; congr 2
  rw [e1, e2, ← Nat.mul_add, Nat.mul_div_cancel_left _ hP, Nat.mul_div_cancel_left _ hP]
  have e3 : M = 256 ^ (r + 1) * 256 ^ (7 - r) := by rw [M_256, ← Nat.pow_add]; congr 1; omega
  have hlo : b * 256 ^ r < 256 ^ (r + 1) := by
    rw [Nat.pow_succ, Nat.mul_comm]
    exact Nat.mul_lt_mul_of_pos_left hb (pow_256_pos r)
  have hZ := pow_256_pos (7 - r)
  have hmod := Nat.mod_lt A hZ
  have hsum : 256 ^ (r + 1) * (A % 256 ^ (7 - r)) + b * 256 ^ r < M := by
    rw [e3]
    have : 256 ^ (r + 1) * (A % 256 ^ (7 - r) + 1) ≤ 256 ^ (r + 1) * 256 ^ (7 - r) := Nat.mul_le_mul_left _ hmod
    rw [Nat.mul_add] at this
    omega
  refine ⟨?_, by omega⟩
  have e4 : 256 ^ (r + 1) * A % M = 256 ^ (r + 1) * (A % 256 ^ (7 - r)) := by rw [e3, Nat.mul_mod_mul_left]
  have e5 : (256 ^ (r + 1) * A + b * 256 ^ r) % M = 256 ^ (r + 1) * (A % 256 ^ (7 - r)) + b * 256 ^ r := by
    rw [Nat.add_mod, e4, Nat.mod_eq_of_lt (show b * 256 ^ r < M by omega), Nat.mod_eq_of_lt hsum]
  rw [e4, e5]
  rw [pow_256 (r + 1)] at hlo ⊢
  exact Nat.two_pow_add_eq_or_of_lt hlo _
theorem sm_lim (n : Nat) : ∀ k, sm (lim n) 0 k = n % M ^ k
  | 0 => by simp [sm, Nat.mod_one]
  | k + 1 => by
    rw [sm_succ, sm_lim n k, Nat.zero_add, Nat.pow_succ, Nat.mod_mul]
    rfl

/-- What lies there when i of l's bytes have come. -/
def come (l : List UInt8) (i : Nat) : Nat := bval (l.take i) * 256 ^ (l.length - i)
theorem come_zero (l : List UInt8) : come l 0 = 0 := by simp [come, bval]
theorem come_all (l : List UInt8) : come l l.length = bval l := by simp [come]
theorem come_before (l : List UInt8) (i : Nat) (h : i < l.length) : come l i = 256 ^ (l.length - 1 - i + 1) * bval (l.take i) := by
  unfold come
  rw [Nat.mul_comm]
  congr 2
  omega
theorem come_behind (l : List UInt8) (i : Nat) (h : i < l.length) : come l (i + 1) = 256 ^ (l.length - 1 - i + 1) * bval (l.take i) + (l[i]).toNat * 256 ^ (l.length - 1 - i) := by
  unfold come
  rw [List.take_succ_eq_append_getElem h, bval_snoc, Nat.add_mul, Nat.pow_succ, show l.length - (i + 1) = l.length - 1 - i from by omega]
  congr 1
  rw [Nat.mul_comm 256, Nat.mul_assoc, Nat.mul_comm]
  congr 1
  rw [Nat.mul_comm]
theorem nbyt_limbs {xs : List Nat} (h : Ok xs) : nbyt (val xs) ≤ 8 * xs.length := by
  rw [nbyt_le, ← M_pow_256]
  exact val_lt h

end Go.Proofs.Ytkmlnglmecjmeaa.Num


/- Plain arithmetic: Fermat's little theorem, of a number with one number whose powers are all others; six primes are checked. No condition but those that each theorem names. -/
namespace Go.Proofs.Ytkmlnglmecjmeaa.Num
set_option linter.unusedVariables false

/-! Of as many numbers as there are, each is met -/
theorem no_more : ∀ (n : Nat) (f : Nat → Nat), (∀ i, i < n + 1 → f i < n) → ∃ i j, i < j ∧ j < n + 1 ∧ f i = f j := by
  intro n
  induction n with
  | zero => intro f h; exact absurd (h 0 (by omega)) (by omega)
  | succ n ih =>
    intro f h
    by_cases hx : ∃ i, i < n + 1 ∧ f i = f (n + 1)
    · obtain ⟨i, hi, e⟩ := hx
      exact ⟨i, n + 1, hi, by omega, e⟩
    · have hne : ∀ i, i < n + 1 → f i ≠ f (n + 1) := fun i hi e => hx ⟨i, hi, e⟩
      obtain ⟨i, j, hij, hj, e⟩ := ih (fun i => if f i < f (n + 1) then f i else f i - 1) (by
        intro i hi
        have h1 := h i (by omega)
        have h2 := h (n + 1) (by omega)
        have h3 := hne i hi
        show (if f i < f (n + 1) then f i else f i - 1) < n
        split <;> omega)
      have h1 := hne i (by omega)
      have h2 := hne j hj
      refine ⟨i, j, hij, by omega, ?_⟩
      split at e <;> split at e <;> omega

theorem met {n : Nat} {f : Nat → Nat} (h : ∀ i, i < n → f i < n) (hinj : ∀ i j, i < j → j < n → f i ≠ f j) {y : Nat} (hy : y < n) : ∃ i, i < n ∧ f i = y := by
  apply Classical.byContradiction
  intro hno
  obtain ⟨i, j, hij, hj, e⟩ := no_more n (fun i => if i < n then f i else y) (by
    intro i hi
    show (if i < n then f i else y) < n
    split
    · exact h i (by assumption)
    · exact hy)
  rw [if_pos (show i < n by omega)] at e
  by_cases hjn : j < n
  · rw [if_pos hjn] at e
    exact hinj i j hij hjn e
  · rw [if_neg hjn] at e
    exact hno ⟨i, by omega, e⟩

/-! Fermat, of a number p that has a number g whose powers up to p - 1 are all others' -/

/-- Powers that leave 1 do so at the greatest common divisor. -/
theorem one_gcd {g p : Nat} (hp : 1 < p) : ∀ (m n : Nat), g ^ m % p = 1 → g ^ n % p = 1 → g ^ Nat.gcd m n % p = 1 := by
  intro m n
  induction m, n using Nat.gcd.induction with
  | H0 n => intro _ h; rwa [Nat.gcd_zero_left]
  | H1 m n hm ih =>
    intro h1 h2
    rw [Nat.gcd_rec]
    refine ih ?_ h1
    have e : n = n % m + m * (n / m) := (Nat.mod_add_div n m).symm
    rw [e, Nat.pow_add, Nat.mul_mod, Nat.pow_mul, Nat.pow_mod (g ^ m), h1, Nat.one_pow, Nat.mod_eq_of_lt hp, Nat.mul_one, Nat.mod_mod] at h2
    exact h2

/-- c is 1, or one of the numbers l, whose product is n, divides it. -/
theorem some_divides : ∀ (l : List Nat) (c : Nat), (∀ q ∈ l, ∀ d, d ∣ q → d = 1 ∨ d = q) → c ∣ l.foldr (· * ·) 1 → c = 1 ∨ ∃ q ∈ l, q ∣ c := by
  intro l c hl hc
  by_cases h : ∃ q ∈ l, q ∣ c
  · exact .inr h
  · refine .inl ?_
    have hco : ∀ l' : List Nat, (∀ q ∈ l', q ∈ l) → Nat.Coprime c (l'.foldr (· * ·) 1) := by
      intro l'
      induction l' with
      | nil => intro _; exact Nat.coprime_one_right c
      | cons q l' ih =>
        intro hq
        refine Nat.Coprime.mul_right ?_ (ih fun x hx => hq x (List.mem_cons_of_mem _ hx))
        have hq1 := hq q (List.mem_cons_self ..)
        rcases hl q hq1 (Nat.gcd c q) (Nat.gcd_dvd_right c q) with e | e
        · exact e
        · exact absurd ⟨q, hq1, by rw [← e]; exact Nat.gcd_dvd_left c q⟩ h
    exact Nat.Coprime.eq_one_of_dvd (hco l fun q hq => hq) hc

theorem gen_order {g p : Nat} (hp : 1 < p) (l : List Nat) (hl : ∀ q ∈ l, ∀ d, d ∣ q → d = 1 ∨ d = q) (hn : l.foldr (· * ·) 1 = p - 1) (h1 : g ^ (p - 1) % p = 1)
    (hq : ∀ q ∈ l, g ^ ((p - 1) / q) % p ≠ 1) {k : Nat} (hk : 0 < k) (hkp : k < p - 1) : g ^ k % p ≠ 1 := by
  intro hk1
  have hg := one_gcd hp k (p - 1) hk1 h1
  obtain ⟨c, hc⟩ := Nat.gcd_dvd_right k (p - 1)
  have hd : Nat.gcd k (p - 1) ≤ k := Nat.gcd_le_left _ hk
  generalize Nat.gcd k (p - 1) = D at *
  have hc1 : c ≠ 1 := by rintro rfl; rw [Nat.mul_one] at hc; omega
  rcases some_divides l c hl ⟨D, by rw [hn, Nat.mul_comm]; exact hc⟩ with e | ⟨q, hql, ⟨c', rfl⟩⟩
  · exact hc1 e
  · have hq0 : 0 < q := by
      rcases Nat.eq_zero_or_pos q with rfl | h
      · rw [Nat.zero_mul, Nat.mul_zero] at hc; omega
      · exact h
    refine hq q hql ?_
    have e : (p - 1) / q = D * c' := by
      rw [hc, Nat.mul_left_comm, Nat.mul_div_cancel_left _ hq0]
    rw [e, Nat.pow_mul, Nat.pow_mod, hg, Nat.one_pow, Nat.mod_eq_of_lt hp]

theorem fermat_of {g p : Nat} (hp : 1 < p) (h1 : g ^ (p - 1) % p = 1) (ho : ∀ k, 0 < k → k < p - 1 → g ^ k % p ≠ 1) {a : Nat} (ha : a % p ≠ 0) : a ^ (p - 1) % p = 1 := by
  have hne : ∀ i, i < p - 1 → g ^ i % p ≠ 0 := by
    intro i hi h
    have e : p - 1 = i + (p - 1 - i) := by omega
    rw [e, Nat.pow_add, Nat.mul_mod, h, Nat.zero_mul, Nat.zero_mod] at h1
    omega
  have hlt : ∀ i, g ^ i % p < p := fun i => Nat.mod_lt _ (by omega)
  have ham := Nat.mod_lt a (show 0 < p by omega)
  obtain ⟨i, hi, e⟩ := met (n := p - 1) (f := fun i => g ^ i % p - 1) (y := a % p - 1)
    (by intro i hi; have := hne i hi; have := hlt i; show g ^ i % p - 1 < p - 1; omega)
    (by
      intro i j hij hj
      show g ^ i % p - 1 ≠ g ^ j % p - 1
      intro e
      have h3 := hne i (by omega)
      have h4 := hne j hj
      have e2 : g ^ i % p = g ^ j % p := by omega
      refine ho (i + (p - 1 - j)) (by omega) (by omega) ?_
      rw [Nat.pow_add, Nat.mul_mod, e2, ← Nat.mul_mod, ← Nat.pow_add, show j + (p - 1 - j) = p - 1 by omega, h1])
    (by omega)
  have h3 := hne i hi
  have e2 : g ^ i % p = a % p := by
    have e' : g ^ i % p - 1 = a % p - 1 := e
    omega
  rw [Nat.pow_mod, ← e2, ← Nat.pow_mod, ← Nat.pow_mul, Nat.mul_comm, Nat.pow_mul, Nat.pow_mod, h1, Nat.one_pow, Nat.mod_eq_of_lt hp]

/-- A power, worked out. -/
def sq (a m r : Nat) (odd : Bool) : Nat := if odd then r * r % m * a % m else r * r % m
def pg (a m : Nat) : Nat → Nat → Nat
  | 0, _ => 1 % m
  | f + 1, e => sq a m (pg a m f (e / 2)) (e % 2 == 1)
theorem pg_is (a m : Nat) : ∀ f e, e < 2 ^ f → pg a m f e = a ^ e % m := by
  intro f
  induction f with
  | zero => intro e he; rw [Nat.pow_zero] at he; have : e = 0 := by omega
            subst this; rfl
  | succ f ih =>
    intro e he
    have h2 := ih (e / 2) (by rw [Nat.pow_succ] at he; omega)
    show sq a m (pg a m f (e / 2)) (e % 2 == 1) = _
    rw [h2]
    unfold sq
    rcases (show e % 2 = 1 ∨ e % 2 = 0 by omega) with h | h
    · rw [h]
      have e1 : e = e / 2 + e / 2 + 1 := by omega
      have e3 : a ^ e = a ^ (e / 2) * a ^ (e / 2) * a := by
        conv => lhs; rw [e1]
        rw [Nat.pow_add, Nat.pow_add, Nat.pow_one]
      rw [e3]
      show (a ^ (e / 2) % m * (a ^ (e / 2) % m) % m * a) % m = _
      rw [← Nat.mul_mod, Nat.mod_mul_mod]
    · rw [h]
      have e1 : e = e / 2 + e / 2 := by omega
      have e3 : a ^ e = a ^ (e / 2) * a ^ (e / 2) := by
        conv => lhs; rw [e1]
        rw [Nat.pow_add]
      rw [e3]
      show (a ^ (e / 2) % m * (a ^ (e / 2) % m)) % m = _
      rw [← Nat.mul_mod]

def undivided (q : Nat) : Bool := decide (0 < q) && (List.range q).all (fun d => decide (d < 2) || q % d != 0)
theorem undivided_is {q : Nat} (h : undivided q = true) : ∀ d, d ∣ q → d = 1 ∨ d = q := by
  intro d hd
  unfold undivided at h
  rw [Bool.and_eq_true, decide_eq_true_iff] at h
  obtain ⟨h0, hall⟩ := h
  have hle := Nat.le_of_dvd h0 hd
  rcases Nat.lt_or_ge d q with hlt | hge
  · have h1 := List.all_eq_true.1 hall d (List.mem_range.2 hlt)
    have hm : q % d = 0 := Nat.mod_eq_zero_of_dvd hd
    rw [hm] at h1
    have h2 : d < 2 := by simpa using h1
    have h3 : 0 < d := Nat.pos_of_dvd_of_pos hd h0
    exact .inl (by omega)
  · exact .inr (by omega)

/-- What is checked of a prime, one number and its order's divisors. -/
def certs (p g : Nat) (l : List Nat) : Bool :=
  decide (1 < p) && decide (p < 2 ^ 64) && l.all undivided && decide (l.foldr (· * ·) 1 = p - 1) && decide (pg g p 64 (p - 1) = 1) && l.all (fun q => decide (pg g p 64 ((p - 1) / q) ≠ 1))
theorem fermat {p g : Nat} {l : List Nat} (h : certs p g l = true) {a : Nat} (ha : a % p ≠ 0) : a ^ (p - 1) % p = 1 := by
  unfold certs at h
  simp only [Bool.and_eq_true, decide_eq_true_iff] at h
  obtain ⟨⟨⟨⟨⟨hp, h64⟩, hnd⟩, hn⟩, h1⟩, hq⟩ := h
  have e1 := pg_is g p 64 (p - 1) (by omega)
  rw [e1] at h1
  refine fermat_of hp h1 (fun k hk hkp => gen_order hp l (fun q hq' => undivided_is (List.all_eq_true.1 hnd q hq')) hn h1 (fun q hq' => ?_) hk hkp) ha
  have h2 := List.all_eq_true.1 hq q hq'
  rw [decide_eq_true_iff] at h2
  rwa [pg_is g p 64 _ (Nat.lt_of_le_of_lt (Nat.div_le_self _ _) (by omega))] at h2

def Fermats (p : Nat) : Prop := 1 < p ∧ p < M ∧ ∀ a, a % p ≠ 0 → pm a (p - 1) p = 1
theorem fermats {p g : Nat} {l : List Nat} (h : certs p g l = true) : Fermats p := by
  have h' := h
  unfold certs at h'
  simp only [Bool.and_eq_true, decide_eq_true_iff] at h'
  obtain ⟨⟨⟨⟨⟨hp, h64⟩, _⟩, _⟩, _⟩, _⟩ := h'
  refine ⟨hp, by rw [M_two]; exact h64, fun a ha => ?_⟩
  rw [pm_is]
  exact fermat h ha
theorem cert_2 : certs 2 1 [] = true := by decide +kernel
theorem cert_3 : certs 3 2 [2] = true := by decide +kernel
theorem cert_23 : certs 23 5 [2, 11] = true := by decide +kernel
theorem cert_2039 : certs 2039 7 [2, 1019] = true := by decide +kernel
theorem cert_65537 : certs 65537 3 (List.replicate 16 2) = true := by decide +kernel
theorem cert_61 : certs 2305843009213693951 37 [2, 3, 3, 5, 5, 7, 11, 13, 31, 41, 61, 151, 331, 1321] = true := by decide +kernel

theorem fermats_all {p : Nat} (h : p = 2 ∨ p = 3 ∨ p = 23 ∨ p = 2039 ∨ p = 65537 ∨ p = 2305843009213693951) : Fermats p := by
  rcases h with rfl | rfl | rfl | rfl | rfl | rfl
  · exact fermats cert_2
  · exact fermats cert_3
  · exact fermats cert_23
  · exact fermats cert_2039
  · exact fermats cert_65537
  · exact fermats cert_61

end Go.Proofs.Ytkmlnglmecjmeaa.Num



/- Plain arithmetic of layer 5: the groups' primes, what an element is, and that the elements, and 1, are the squares. No condition but those that each theorem names. -/
namespace Go.Proofs.Ytkmlnglmecjmeaa.Num
set_option linter.unusedVariables false

/-- The limbs of the great group's prime, the lowest first. -/
def greatL : List Nat := [
  0xffffffffffffffff, 0xf1746c08ca237327, 0x670c354e4abc9804, 0x9ed529077096966d,
  0x1c62f356208552bb, 0x83655d23dca3ad96, 0x69163fa8fd24cf5f, 0x98da48361c55d39a,
  0xc2007cb8a163bf05, 0x49286651ece45b3d, 0xae9f24117c4b1fe6, 0xee386bfb5a899fa5,
  0x0bff5cb6f406b7ed, 0xf44c42e9a637ed6b, 0xe485b576625e7ec6, 0x4fe1356d6d51c245,
  0x302b0a6df25f1437, 0xef9519b3cd3a431b, 0x514a08798e3404dd, 0x020bbea63b139b22,
  0x29024e088a67cc74, 0xc4c6628b80dc1cd1, 0xc90fdaa22168c234, 0xffffffffffffffff]
/-- A group's prime; 0 where there is no such group. -/
@[irreducible] def P (g : Int) : Nat := if g = 0 then 23 else if g = 1 then 2039 else if g = 5 then val greatL else 0
theorem P_0 : P 0 = 23 := by unfold P; rfl
theorem P_1 : P 1 = 2039 := by unfold P; rfl
theorem P_5 : P 5 = val greatL := by unfold P; rfl
theorem P_no {g : Int} (h0 : g ≠ 0) (h1 : g ≠ 1) (h5 : g ≠ 5) : P g = 0 := by unfold P; rw [if_neg h0, if_neg h1, if_neg h5]
theorem great_ok : greatL.all (fun x => decide (x < M)) = true := by decide +kernel
theorem great_trim : trim greatL = greatL := by decide +kernel
theorem great_Ok : Ok greatL := fun x hx => by simpa using List.all_eq_true.1 great_ok x hx
theorem limbs_great : limbs (val greatL) = greatL := by rw [limbs_val great_Ok, great_trim]
theorem great_pos : val greatL ≠ 0 := by decide +kernel
theorem P_cases (g : Int) : g = 0 ∨ g = 1 ∨ g = 5 ∨ (g ≠ 0 ∧ g ≠ 1 ∧ g ≠ 5) := by omega
theorem P_len (g : Int) : (limbs (P g)).length ≤ 24 := by
  rcases P_cases g with rfl | rfl | rfl | ⟨a, b, c⟩
  · rw [P_0]; decide +kernel
  · rw [P_1]; decide +kernel
  · rw [P_5, limbs_great]; decide +kernel
  · rw [P_no a b c]; decide +kernel
theorem P_lt (g : Int) : P g < M ^ 24 := by
  have h := val_lt (ok_limbs (P g))
  rw [val_limbs] at h
  exact Nat.lt_of_lt_of_le h (Nat.pow_le_pow_right M_pos (P_len g))
theorem len_pos {n : Nat} (h : n ≠ 0) : 0 < (limbs n).length := by rw [limbs_pos h]; simp
theorem half_len (g : Int) : (limbs (P g / 2)).length ≤ 24 := limbs_len (Nat.lt_of_le_of_lt (Nat.div_le_self _ _) (P_lt g))

/-- Whether there is a group of that number. -/
def isG (g : Int) : Bool := decide (P g ≠ 0)
theorem isG_is (g : Int) : isG g = (decide (g = 0) || decide (g = 1) || decide (g = 5)) := by
  unfold isG
  rcases P_cases g with rfl | rfl | rfl | ⟨a, b, c⟩
  · rw [P_0]; rfl
  · rw [P_1]; rfl
  · rw [P_5, decide_eq_true great_pos]; rfl
  · rw [P_no a b c]; simp [a, b, c]

/-- Whether bytes are a group's element. -/
@[irreducible] def isEl (g : Int) (l : List UInt8) : Bool := decide (P g ≠ 0 ∧ l.length ≤ 400 ∧ whole l = true ∧ 1 < bval l ∧ bval l < P g ∧ pm (bval l) (P g / 2) (P g) = 1)
theorem isEl_iff {g : Int} {l : List UInt8} : isEl g l = true ↔ (P g ≠ 0 ∧ l.length ≤ 400 ∧ whole l = true ∧ 1 < bval l ∧ bval l < P g ∧ pm (bval l) (P g / 2) (P g) = 1) := by
  unfold isEl
  exact decide_eq_true_iff
theorem isEl_no {g : Int} {l : List UInt8} (h : ¬ (P g ≠ 0 ∧ l.length ≤ 400 ∧ whole l = true ∧ 1 < bval l ∧ bval l < P g ∧ pm (bval l) (P g / 2) (P g) = 1)) : isEl g l = false := by
  unfold isEl
  exact decide_eq_false h
theorem P_odd {g : Int} (h : P g ≠ 0) : P g ≠ 2 := by
  rcases P_cases g with rfl | rfl | rfl | ⟨a, b, c⟩
  · rw [P_0]; decide
  · rw [P_1]; decide
  · rw [P_5]; decide +kernel
  · exact absurd (P_no a b c) h

/-- Elements of a number's bytes. -/
theorem isEl_byts {g : Int} {n : Nat} (hl : nbyt n ≤ 400) : isEl g (byts n) = true ↔ (1 < n ∧ n < P g ∧ pm n (P g / 2) (P g) = 1) := by
  rw [isEl_iff, byts_length, bval_bytes]
  constructor
  · rintro ⟨_, _, _, a, b, c⟩
    exact ⟨a, b, c⟩
  · rintro ⟨a, b, c⟩
    exact ⟨by omega, hl, whole_bytes n, a, b, c⟩

/-- The squares among the first k numbers. -/
def sqd (p : Nat) : Nat → Nat → Bool
  | 0, _ => false
  | k + 1, i => (decide (k ≠ 0) && decide (k * k % p = i)) || sqd p k i
theorem sqd_iff (p : Nat) : ∀ k i, sqd p k i = true ↔ ∃ j, 1 ≤ j ∧ j < k ∧ j * j % p = i
  | 0, i => ⟨fun h => by simp [sqd] at h, fun ⟨j, _, h, _⟩ => absurd h (Nat.not_lt_zero j)⟩
  | k + 1, i => by
    show ((decide (k ≠ 0) && decide (k * k % p = i)) || sqd p k i) = true ↔ _
    rw [Bool.or_eq_true, Bool.and_eq_true, decide_eq_true_iff, decide_eq_true_iff, sqd_iff p k i]
    constructor
    · rintro (⟨h0, h⟩ | ⟨j, a, b, c⟩)
      · exact ⟨k, by omega, by omega, h⟩
      · exact ⟨j, a, by omega, c⟩
    · rintro ⟨j, a, b, c⟩
      by_cases h : j = k
      · subst h
        exact .inl ⟨by omega, c⟩
      · exact .inr ⟨j, a, by omega, c⟩
theorem sqd_one (p i : Nat) : sqd p 1 i = false := by simp [sqd]
theorem sqd_next (p k : Nat) (hk : 1 ≤ k) (i : Nat) : sqd p (k + 1) i = if i = k * k % p then true else sqd p k i := by
  show ((decide (k ≠ 0) && decide (k * k % p = i)) || sqd p k i) = _
  have h0 : k ≠ 0 := by omega
  by_cases h : i = k * k % p
  · subst h
    simp [h0]
  · have h' : ¬ k * k % p = i := fun e => h e.symm
    simp [h, h']

theorem euler {p i : Nat} (hp : Fermats p) (h4 : p % 4 = 3) (h1 : 1 < i) (hi : i < p) : pm i (p / 2) p = 1 ↔ sqd p p i = true := by
  rw [sqd_iff]
  constructor
  · intro h
    have e1 : pm i ((p + 1) / 4) p * pm i ((p + 1) / 4) p % p = i := by
      rw [← pm_add, show (p + 1) / 4 + (p + 1) / 4 = p / 2 + 1 by omega, pm_succ, h, Nat.one_mul, Nat.mod_eq_of_lt hi]
    have e2 := pm_lt i ((p + 1) / 4) (m := p) (by omega)
    refine ⟨pm i ((p + 1) / 4) p, ?_, e2, e1⟩
    rcases Nat.eq_zero_or_pos (pm i ((p + 1) / 4) p) with h0 | h0
    · rw [h0, Nat.mul_zero, Nat.zero_mod] at e1
      omega
    · exact h0
  · rintro ⟨j, a, b, rfl⟩
    rw [pm_mod, pm_prod, ← pm_add, show p / 2 + p / 2 = p - 1 by omega]
    exact hp.2.2 j (by rw [Nat.mod_eq_of_lt b]; omega)

/-- How many of the k numbers from lo on. -/
def cnt (f : Nat → Bool) (lo : Nat) : Nat → Nat
  | 0 => 0
  | k + 1 => cnt f lo k + (f (lo + k)).toNat
theorem cnt_add (f : Nat → Bool) (lo a : Nat) : ∀ b, cnt f lo (a + b) = cnt f lo a + cnt f (lo + a) b
  | 0 => rfl
  | b + 1 => by
    show cnt f lo (a + b) + (f (lo + (a + b))).toNat = cnt f lo a + (cnt f (lo + a) b + (f (lo + a + b)).toNat)
    rw [cnt_add f lo a b, Nat.add_assoc, Nat.add_assoc lo]
def cntB (f : Nat → Bool) : Nat → Nat → Nat
  | 0, lo => (f lo).toNat
  | d + 1, lo => cntB f d lo + cntB f d (lo + 2 ^ d)
theorem cntB_is (f : Nat → Bool) : ∀ d lo, cntB f d lo = cnt f lo (2 ^ d)
  | 0, lo => by show (f lo).toNat = 0 + (f (lo + 0)).toNat; rw [Nat.zero_add, Nat.add_zero]
  | d + 1, lo => by
    show cntB f d lo + cntB f d (lo + 2 ^ d) = _
    rw [cntB_is f d lo, cntB_is f d (lo + 2 ^ d), ← cnt_add, Nat.pow_succ, Nat.mul_two]
theorem cnt_none (f : Nat → Bool) (lo : Nat) : ∀ k, (∀ j, j < k → f (lo + j) = false) → cnt f lo k = 0
  | 0, _ => rfl
  | k + 1, h => by
    show cnt f lo k + (f (lo + k)).toNat = 0
    rw [cnt_none f lo k (fun j hj => h j (by omega)), h k (by omega)]
    rfl
/-- Whether a number is an element of a small group. -/
def elN (p i : Nat) : Bool := decide (2 ≤ i) && (decide (i < p) && decide (pm i (p / 2) p = 1))
def elB (p : Nat) (l : List Bool) (i : Nat) : Bool := decide (2 ≤ i) && (decide (i < p) && decide (pe i p l = 1))
theorem elN_is {p : Nat} {l : List Bool} (h : p / 2 = nb l) (i : Nat) : elN p i = elB p l i := by unfold elN elB; rw [h, pe_is]
theorem cnt_el {p d c : Nat} {l : List Bool} (h : p / 2 = nb l) (hd : p ≤ 2 ^ d) (hc : cntB (elB p l) d 0 = c) : cnt (elN p) 0 p = c := by
  have hf : elN p = elB p l := funext (elN_is h)
  rw [← hc, cntB_is, ← hf]
  obtain ⟨r, hr⟩ : ∃ r, 2 ^ d = p + r := ⟨2 ^ d - p, by omega⟩
  rw [hr, cnt_add, cnt_none (elN p) (0 + p) r (fun j _ => by
    have : ¬ (0 + p + j < p) := by omega
    unfold elN
    rw [decide_eq_false this]
    simp)]
  rfl
theorem cnt_23 : cnt (elN 23) 0 23 = 10 := cnt_el (d := 5) (l := [true, false, true, true]) (by decide +kernel) (by decide +kernel) (by decide +kernel)
theorem cnt_2039 : cnt (elN 2039) 0 2039 = 1018 := cnt_el (d := 11) (l := [true, true, true, true, true, true, true, false, true, true]) (by decide +kernel) (by decide +kernel) (by decide +kernel)
theorem cnt_le (f : Nat → Bool) (lo : Nat) : ∀ k, cnt f lo k ≤ k
  | 0 => Nat.le_refl _
  | k + 1 => by
    have := cnt_le f lo k
    have := Bool.toNat_le (f (lo + k))
    show cnt f lo k + (f (lo + k)).toNat ≤ k + 1
    omega

/-- What closes under products. -/
theorem el_times {g : Int} {x y : Nat} (hx : 1 < x ∧ x < P g ∧ pm x (P g / 2) (P g) = 1) (hy : 1 < y ∧ y < P g ∧ pm y (P g / 2) (P g) = 1) (h1 : x * y % P g ≠ 1) : 1 < x * y % P g ∧ x * y % P g < P g ∧ pm (x * y % P g) (P g / 2) (P g) = 1 := by
  have hp : 2 < P g := by omega
  have e : pm (x * y % P g) (P g / 2) (P g) = 1 := by rw [pm_mod, pm_prod, hx.2.2, hy.2.2, Nat.mod_eq_of_lt (by omega)]
  refine ⟨?_, Nat.mod_lt _ (by omega), e⟩
  rcases Nat.eq_zero_or_pos (x * y % P g) with h0 | h0
  · rw [h0, pm_nought _ (by omega)] at e
    omega
  · omega

/-- A number in base sixteen: what a letter tells, and what letters come to. -/
def hexd (b : UInt8) : Nat := if 65 ≤ b.toNat then b.toNat - 55 else b.toNat - 48
def hexv (l : List UInt8) : Nat := l.foldl (fun a b => 16 * a + hexd b) 0
theorem hexv_snoc (l : List UInt8) (b : UInt8) : hexv (l ++ [b]) = 16 * hexv l + hexd b := by simp [hexv]
def isHex (b : UInt8) : Bool := (decide (48 ≤ b.toNat) && decide (b.toNat ≤ 57)) || (decide (65 ≤ b.toNat) && decide (b.toNat ≤ 70))
theorem hexd_lt {b : UInt8} (h : isHex b = true) : hexd b < 16 := by
  unfold isHex at h
  unfold hexd
  simp at h
  split <;> omega
theorem hexv_lt (l : List UInt8) (h : ∀ b ∈ l, isHex b = true) : hexv l < 16 ^ l.length := by
  induction l using snoc_ind with
  | h0 => decide
  | hs l b ih =>
    have h1 := ih (fun c hc => h c (by simp [hc]))
    have h2 := hexd_lt (h b (by simp))
    rw [hexv_snoc, List.length_append, List.length_singleton, Nat.pow_succ]
    omega
end Go.Proofs.Ytkmlnglmecjmeaa.Num


/- Plain arithmetic of layer 6: what a secret is, what a number counts as, powers; that of a small group no power of 2 below the order is 1. No condition but those that each theorem names. -/
namespace Go.Proofs.Ytkmlnglmecjmeaa.Num
set_option linter.unusedVariables false

/-- Whether bytes are a group's secret. -/
@[irreducible] def isS (g : Int) (l : List UInt8) : Bool := decide (P g ≠ 0 ∧ l.length ≤ 400 ∧ whole l = true ∧ 2 ≤ bval l ∧ bval l < P g / 2)
theorem isS_iff {g : Int} {l : List UInt8} : isS g l = true ↔ (P g ≠ 0 ∧ l.length ≤ 400 ∧ whole l = true ∧ 2 ≤ bval l ∧ bval l < P g / 2) := by
  unfold isS
  exact decide_eq_true_iff
theorem isS_no {g : Int} {l : List UInt8} (h : ¬ (P g ≠ 0 ∧ l.length ≤ 400 ∧ whole l = true ∧ 2 ≤ bval l ∧ bval l < P g / 2)) : isS g l = false := by
  unfold isS
  exact decide_eq_false h
/-- What a base to a power leaves of the group's prime; 0 where there is no such group. -/
@[irreducible] def powN (g : Int) (a e : Nat) : Nat := if P g = 0 then 0 else pm a e (P g)
theorem powN_no {g : Int} (a e : Nat) (h : P g = 0) : powN g a e = 0 := by unfold powN; rw [if_pos h]
theorem powN_yes {g : Int} (a e : Nat) (h : P g ≠ 0) : powN g a e = pm a e (P g) := by unfold powN; rw [if_neg h]
/-- The secret that a number counts as. -/
@[irreducible] def redN (g : Int) (n : Nat) : Nat := if P g = 0 then 0 else 2 + n % (P g / 2 - 2)
theorem redN_no {g : Int} (n : Nat) (h : P g = 0) : redN g n = 0 := by unfold redN; rw [if_pos h]
theorem redN_yes {g : Int} (n : Nat) (h : P g ≠ 0) : redN g n = 2 + n % (P g / 2 - 2) := by unfold redN; rw [if_neg h]
theorem great_big : 100 < val greatL := by decide +kernel
theorem q_big {g : Int} (h : P g ≠ 0) : 10 < P g / 2 := by
  rcases P_cases g with rfl | rfl | rfl | ⟨a, b, c⟩
  · rw [P_0]; decide
  · rw [P_1]; decide
  · rw [P_5]
    have := great_big
    omega
  · exact absurd (P_no a b c) h
theorem powN_lt (g : Int) (a e : Nat) : powN g a e < M ^ 24 := by
  by_cases h : P g = 0
  · rw [powN_no a e h]; exact Nat.pow_pos M_pos
  · rw [powN_yes a e h]; exact Nat.lt_trans (pm_lt _ _ (by omega)) (P_lt g)
theorem red_lt {g : Int} (n : Nat) (h : P g ≠ 0) : 2 + n % (P g / 2 - 2) < P g / 2 := by
  have h1 := q_big h
  have h2 := Nat.mod_lt n (show P g / 2 - 2 > 0 by omega)
  omega
theorem redN_lt (g : Int) (n : Nat) : redN g n < M ^ 24 := by
  by_cases h : P g = 0
  · rw [redN_no n h]; exact Nat.pow_pos M_pos
  · rw [redN_yes n h]
    have h1 := red_lt n h
    have h2 := P_lt g
    omega
theorem powN_len (g : Int) (a e : Nat) : (limbs (powN g a e)).length ≤ 24 := limbs_len (powN_lt g a e)
theorem redN_len (g : Int) (n : Nat) : (limbs (redN g n)).length ≤ 24 := limbs_len (redN_lt g n)
theorem nbyt_24 {n : Nat} (h : n < M ^ 24) : nbyt n ≤ 192 := nbyt_le.2 (by rw [M_pow_256] at h; exact h)
/-- What a number counts as is a secret. -/
theorem isS_red {g : Int} (n : Nat) (h : P g ≠ 0) : isS g (byts (redN g n)) = true := by
  have h1 := red_lt n h
  have h2 := nbyt_24 (redN_lt g n)
  refine isS_iff.2 ⟨h, by rw [byts_length]; omega, whole_bytes _, ?_, ?_⟩
  · rw [bval_bytes, redN_yes n h]; omega
  · rw [bval_bytes, redN_yes n h]; exact h1
/-- Powers in either order. -/
theorem pow_two (g : Int) (a s t : Nat) : powN g (powN g a s) t = powN g (powN g a t) s := by
  by_cases h : P g = 0
  · rw [powN_no _ _ h, powN_no _ _ h]
  · rw [powN_yes _ _ h, powN_yes _ _ h, powN_yes _ _ h, powN_yes _ _ h, ← pm_mul, ← pm_mul, Nat.mul_comm]

end Go.Proofs.Ytkmlnglmecjmeaa.Num
