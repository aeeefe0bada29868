/- Plain arithmetic of numbers that are lists of limbs below 2^64, the lowest first: no condition but those that each theorem names. -/
namespace Go.Proofs.Ytmbdidompjgaaaa.Num

def M : Nat := 18446744073709551616
theorem M_pos : 0 < M := by unfold M; omega
theorem M_two : M = 2 ^ 64 := by decide

def val : List Nat → Nat
  | [] => 0
  | x :: xs => x + M * val xs

def Ok (xs : List Nat) : Prop := ∀ x ∈ xs, x < M

/-- The k-th limb: 0 above all. -/
def lat (xs : List Nat) (k : Nat) : Nat := xs[k]?.getD 0
theorem lat_lt {xs : List Nat} {k : Nat} (h : k < xs.length) : lat xs k = xs[k] := by simp [lat, h]
theorem lat_ge {xs : List Nat} {k : Nat} (h : ¬ k < xs.length) : lat xs k = 0 := by simp [lat, h]

theorem ok_nil : Ok [] := fun _ h => by cases h
theorem ok_append {xs ys : List Nat} (h : Ok xs) (g : Ok ys) : Ok (xs ++ ys) := fun x hx => (List.mem_append.1 hx).elim (h x) (g x)
theorem ok_one {x : Nat} (h : x < M) : Ok [x] := fun y hy => by simp at hy; omega
theorem ok_get {xs : List Nat} (h : Ok xs) (j : Nat) : lat xs j < M := by
  unfold lat
  by_cases hj : j < xs.length
  · simp [hj]; exact h _ (List.getElem_mem hj)
  · simp [hj]; exact M_pos
theorem ok_take {xs : List Nat} (h : Ok xs) (n : Nat) : Ok (xs.take n) := fun x hx => h x (List.mem_of_mem_take hx)

theorem snoc_ind {α : Type} {P : List α → Prop} (h0 : P []) (hs : ∀ l x, P l → P (l ++ [x])) : ∀ l, P l := by
  intro l
  rw [← List.reverse_reverse l]
  induction l.reverse with
  | nil => exact h0
  | cons x xs ih => rw [List.reverse_cons]; exact hs _ _ ih

theorem val_append (xs ys : List Nat) : val (xs ++ ys) = val xs + M ^ xs.length * val ys := by
  induction xs with
  | nil => simp [val]
  | cons x xs ih =>
    simp only [List.cons_append, val, ih, List.length_cons, Nat.pow_succ, Nat.mul_add, Nat.add_assoc]
    congr 2
    rw [← Nat.mul_assoc, Nat.mul_comm M]

theorem val_snoc (xs : List Nat) (x : Nat) : val (xs ++ [x]) = val xs + M ^ xs.length * x := by
  rw [val_append]; simp [val]

theorem val_lt {xs : List Nat} (h : Ok xs) : val xs < M ^ xs.length := by
  induction xs with
  | nil => simp [val]
  | cons x xs ih =>
    have hx := h x (by simp)
    have hi := ih (fun y hy => h y (by simp [hy]))
    simp only [val, List.length_cons, Nat.pow_succ]
    have : M * (val xs + 1) ≤ M * M ^ xs.length := Nat.mul_le_mul_left _ hi
    rw [Nat.mul_comm (M ^ _)]
    rw [Nat.mul_add] at this
    omega

/-! ### Without noughts on top -/
def trim : List Nat → List Nat
  | [] => []
  | x :: xs => if trim xs = [] then (if x = 0 then [] else [x]) else x :: trim xs

def hgt (xs : List Nat) : Nat := (trim xs).length

theorem trim_take (xs : List Nat) : xs.take (hgt xs) = trim xs := by
  induction xs with
  | nil => rfl
  | cons x xs ih =>
    unfold hgt at ih ⊢
    simp only [trim]
    by_cases h : trim xs = []
    · rw [if_pos h]
      by_cases hx : x = 0
      · simp [hx]
      · simp [hx]
    · rw [if_neg h]; simp [ih]

theorem hgt_le (xs : List Nat) : hgt xs ≤ xs.length := by
  have h := congrArg List.length (trim_take xs)
  rw [List.length_take] at h
  have : (trim xs).length = hgt xs := rfl
  omega

theorem trim_snoc_zero (xs : List Nat) : trim (xs ++ [0]) = trim xs := by
  induction xs with
  | nil => simp [trim]
  | cons x xs ih => simp [trim, ih]

theorem trim_snoc_pos (xs : List Nat) {x : Nat} (h : x ≠ 0) : trim (xs ++ [x]) = xs ++ [x] := by
  induction xs with
  | nil => simp [trim, h]
  | cons y ys ih => simp [trim, ih]

theorem hgt_snoc_zero (xs : List Nat) : hgt (xs ++ [0]) = hgt xs := by unfold hgt; rw [trim_snoc_zero]
theorem hgt_snoc_pos (xs : List Nat) {x : Nat} (h : x ≠ 0) : hgt (xs ++ [x]) = xs.length + 1 := by unfold hgt; rw [trim_snoc_pos xs h]; simp

theorem val_trim (xs : List Nat) : val (trim xs) = val xs := by
  induction xs with
  | nil => rfl
  | cons x xs ih =>
    simp only [trim]
    by_cases h : trim xs = []
    · rw [if_pos h]
      have : val xs = 0 := by rw [← ih, h]; rfl
      by_cases hx : x = 0
      · simp [hx, val, this]
      · simp [hx, val, this]
    · rw [if_neg h]; simp [val, ih]

theorem ok_trim {xs : List Nat} (h : Ok xs) : Ok (trim xs) := by rw [← trim_take]; exact ok_take h _

theorem trim_trim (xs : List Nat) : trim (trim xs) = trim xs := by
  induction xs with
  | nil => rfl
  | cons x xs ih =>
    simp only [trim]
    by_cases h : trim xs = []
    · rw [if_pos h]
      by_cases hx : x = 0
      · simp [hx, trim]
      · simp [hx, trim]
    · rw [if_neg h]; simp [trim, ih, h]

/-- Where the loop of 'height' ends. -/
theorem hgt_end_zero (xs : List Nat) (hh : hgt (xs.take 0) = hgt xs) : hgt xs = 0 := by rw [← hh]; simp [hgt, trim]
theorem hgt_end (xs : List Nat) (j : Nat) (hk : j < xs.length) (hh : hgt (xs.take (j + 1)) = hgt xs) (hz : lat xs j ≠ 0) : hgt xs = j + 1 := by
  rw [← hh, List.take_succ_eq_append_getElem (by omega), hgt_snoc_pos]
  · simp; omega
  · simpa [lat, hk] using hz

theorem hgt_step (xs : List Nat) (j : Nat) (hk : j < xs.length) (hz : lat xs j = 0) : hgt (xs.take (j + 1)) = hgt (xs.take j) := by
  rw [List.take_succ_eq_append_getElem hk]
  have : xs[j] = 0 := by simpa [lat, hk] using hz
  rw [this, hgt_snoc_zero]

/-! ### The limbs of a number -/
def limbsF : Nat → Nat → List Nat
  | 0, _ => []
  | f + 1, n => if n = 0 then [] else n % M :: limbsF f (n / M)
def limbs (n : Nat) : List Nat := limbsF n n

theorem div_lt_self' {n : Nat} (h : n ≠ 0) : n / M < n := Nat.div_lt_self (by omega) (by unfold M; omega)

theorem limbsF_fuel : ∀ (f g n : Nat), n ≤ f → n ≤ g → limbsF f n = limbsF g n := by
  intro f
  induction f with
  | zero =>
    intro g n h _
    have : n = 0 := by omega
    subst this
    cases g <;> simp [limbsF]
  | succ f ih =>
    intro g n hf hg
    by_cases h : n = 0
    · subst h; cases g <;> simp [limbsF]
    · cases g with
      | zero => omega
      | succ g =>
        have := div_lt_self' h
        simp only [limbsF, if_neg h]
        rw [ih g (n / M) (by omega) (by omega)]

theorem limbs_zero : limbs 0 = [] := rfl
theorem limbs_pos {n : Nat} (h : n ≠ 0) : limbs n = n % M :: limbs (n / M) := by
  unfold limbs
  cases n with
  | zero => exact absurd rfl h
  | succ n =>
    have := div_lt_self' h
    rw [limbsF, if_neg h, limbsF_fuel n _ _ (by omega) (Nat.le_refl _)]

theorem val_zero_trim {xs : List Nat} (h : val xs = 0) : trim xs = [] := by
  induction xs with
  | nil => rfl
  | cons x xs ih =>
    have hp := M_pos
    simp only [val] at h
    have h1 : x = 0 := by omega
    have h2 : M * val xs = 0 := by omega
    have h3 : val xs = 0 := by rcases Nat.mul_eq_zero.1 h2 with h | h <;> omega
    simp [trim, ih h3, h1]

theorem limbs_val {xs : List Nat} (h : Ok xs) : limbs (val xs) = trim xs := by
  induction xs with
  | nil => rfl
  | cons x xs ih =>
    have hx := h x (by simp)
    have hi := ih (fun y hy => h y (by simp [hy]))
    by_cases h0 : val (x :: xs) = 0
    · rw [h0, val_zero_trim h0]; rfl
    · rw [limbs_pos h0]
      have e1 : val (x :: xs) % M = x := by simp only [val]; rw [Nat.add_mul_mod_self_left, Nat.mod_eq_of_lt hx]
      have e2 : val (x :: xs) / M = val xs := by simp only [val]; rw [Nat.add_mul_div_left _ _ M_pos, Nat.div_eq_of_lt hx, Nat.zero_add]
      rw [e1, e2, hi]
      by_cases h2 : trim xs = []
      · have : val xs = 0 := by rw [← val_trim, h2]; rfl
        have hx0 : x ≠ 0 := by intro e; apply h0; simp [val, this, e]
        simp [trim, h2, hx0]
      · simp [trim, h2]

theorem val_limbs (n : Nat) : val (limbs n) = n := by
  induction n using Nat.strongRecOn with
  | _ n ih =>
    by_cases h : n = 0
    · subst h; rfl
    · rw [limbs_pos h]
      simp only [val]
      rw [ih _ (div_lt_self' h)]
      exact Nat.mod_add_div n M

theorem ok_limbs (n : Nat) : Ok (limbs n) := by
  induction n using Nat.strongRecOn with
  | _ n ih =>
    by_cases h : n = 0
    · subst h; exact ok_nil
    · rw [limbs_pos h]
      intro x hx
      rcases List.mem_cons.1 hx with rfl | hx
      · exact Nat.mod_lt _ M_pos
      · exact ih _ (div_lt_self' h) x hx

theorem trim_limbs (n : Nat) : trim (limbs n) = limbs n := by
  have := limbs_val (ok_limbs n)
  rw [val_limbs] at this
  exact this.symm

theorem limbs_len {n k : Nat} (h : n < M ^ k) : (limbs n).length ≤ k := by
  induction k generalizing n with
  | zero => simp at h; subst h; simp [limbs_zero]
  | succ k ih =>
    by_cases h0 : n = 0
    · subst h0; simp [limbs_zero]
    · rw [limbs_pos h0]
      simp only [List.length_cons]
      have : n / M < M ^ k := by
        rw [Nat.pow_succ, Nat.mul_comm] at h
        exact Nat.div_lt_of_lt_mul h
      have := ih this
      omega

theorem limbs_inj {a b : Nat} (h : limbs a = limbs b) : a = b := by rw [← val_limbs a, h, val_limbs]

/-! ### Pairs of limbs, side by side -/
def Pair : Type := { p : Nat × Nat // p.1 < M ∧ p.2 < M }
def av (pre : List Pair) : Nat := val (pre.map (fun p => p.1.1))
def bv (pre : List Pair) : Nat := val (pre.map (fun p => p.1.2))
theorem av_snoc (pre : List Pair) (p : Pair) : av (pre ++ [p]) = av pre + M ^ pre.length * p.1.1 := by unfold av; rw [List.map_append, List.map_cons, List.map_nil, val_snoc, List.length_map]
theorem bv_snoc (pre : List Pair) (p : Pair) : bv (pre ++ [p]) = bv pre + M ^ pre.length * p.1.2 := by unfold bv; rw [List.map_append, List.map_cons, List.map_nil, val_snoc, List.length_map]
theorem av_lt (pre : List Pair) : av pre < M ^ pre.length := by
  have := val_lt (xs := pre.map (fun p => p.1.1)) (fun x hx => by obtain ⟨p, _, rfl⟩ := List.mem_map.1 hx; exact p.2.1)
  simpa [av] using this
theorem bv_lt (pre : List Pair) : bv pre < M ^ pre.length := by
  have := val_lt (xs := pre.map (fun p => p.1.2)) (fun x hx => by obtain ⟨p, _, rfl⟩ := List.mem_map.1 hx; exact p.2.2)
  simpa [bv] using this

def upto {α : Type} (f : Nat → α) (k : Nat) : List α := (List.range k).map f
theorem upto_succ {α : Type} (f : Nat → α) (k : Nat) : upto f (k + 1) = upto f k ++ [f k] := by simp [upto, List.range_succ]
theorem upto_length {α : Type} (f : Nat → α) (k : Nat) : (upto f k).length = k := by simp [upto]

theorem val_upto (xs : List Nat) : ∀ n, xs.length ≤ n → val (upto (fun j => xs[j]?.getD 0) n) = val xs := by
  have hz : ∀ n, val (upto (fun _ => 0) n) = 0 := by
    intro n
    induction n with
    | zero => rfl
    | succ n ih => rw [upto_succ, val_snoc, ih]; simp
  induction xs with
  | nil => intro n _; simpa [val] using hz n
  | cons x xs ih =>
    intro n hn
    cases n with
    | zero => simp at hn
    | succ n =>
      have h1 : upto (fun j => (x :: xs)[j]?.getD 0) (n + 1) = x :: upto (fun j => xs[j]?.getD 0) n := by
        unfold upto
        rw [List.range_succ_eq_map]
        simp [Function.comp_def]
      rw [h1]
      simp only [val]
      rw [ih n (by simpa using hn)]

def pairAt (xs ys : List Nat) (hx : Ok xs) (hy : Ok ys) (j : Nat) : Pair := ⟨(lat xs j, lat ys j), ok_get hx j, ok_get hy j⟩
theorem av_upto (xs ys : List Nat) (hx : Ok xs) (hy : Ok ys) (n : Nat) (hn : xs.length ≤ n) : av (upto (pairAt xs ys hx hy) n) = val xs := by
  rw [← val_upto xs n hn]; unfold av upto; rw [List.map_map]; rfl
theorem bv_upto (xs ys : List Nat) (hx : Ok xs) (hy : Ok ys) (n : Nat) (hn : ys.length ≤ n) : bv (upto (pairAt xs ys hx hy) n) = val ys := by
  rw [← val_upto ys n hn]; unfold bv upto; rw [List.map_map]; rfl

/-! ### A sum, limb by limb -/
def addLo (x y c : Nat) : Nat := (x + y + c) % M
def addHi (x y c : Nat) : Nat := (x + y + c) / M
theorem add_split (x y c : Nat) : addLo x y c + M * addHi x y c = x + y + c := Nat.mod_add_div _ _
theorem addHi_le {x y c : Nat} (hx : x < M) (hy : y < M) (hc : c ≤ 1) : addHi x y c ≤ 1 := by
  unfold addHi
  have : (x + y + c) / M < 2 := Nat.div_lt_of_lt_mul (by omega)
  omega
theorem addLo_lt (x y c : Nat) : addLo x y c < M := Nat.mod_lt _ M_pos

def addF (c : Nat) (pre : List Pair) : List Nat × Nat := pre.foldl (fun s p => (s.1 ++ [addLo p.1.1 p.1.2 s.2], addHi p.1.1 p.1.2 s.2)) ([], c)
theorem addF_nil (c : Nat) : addF c [] = ([], c) := rfl
theorem addF_snoc (c : Nat) (pre : List Pair) (p : Pair) : addF c (pre ++ [p]) = ((addF c pre).1 ++ [addLo p.1.1 p.1.2 (addF c pre).2], addHi p.1.1 p.1.2 (addF c pre).2) := by simp [addF]

theorem addF_inv {c : Nat} (hc : c ≤ 1) (pre : List Pair) : (addF c pre).2 ≤ 1 ∧ (addF c pre).1.length = pre.length ∧ Ok (addF c pre).1 ∧ val (addF c pre).1 + M ^ pre.length * (addF c pre).2 = av pre + bv pre + c := by
  refine snoc_ind (P := fun pre => (addF c pre).2 ≤ 1 ∧ (addF c pre).1.length = pre.length ∧ Ok (addF c pre).1 ∧ val (addF c pre).1 + M ^ pre.length * (addF c pre).2 = av pre + bv pre + c) ?_ ?_ pre
  · exact ⟨hc, rfl, ok_nil, by simp [addF, av, bv, val]⟩
  · rintro l p ⟨h1, h2, h3, h4⟩
    rw [addF_snoc]
    refine ⟨addHi_le p.2.1 p.2.2 h1, by simp [h2], ok_append h3 (ok_one (addLo_lt _ _ _)), ?_⟩
    dsimp only
    rw [val_snoc, av_snoc, bv_snoc, h2, List.length_append, List.length_singleton, Nat.pow_succ]
    have e := add_split p.1.1 p.1.2 (addF c l).2
    have e2 := congrArg (M ^ l.length * ·) e
    simp only [Nat.mul_add] at e2
    rw [Nat.mul_assoc]
    omega

theorem addF_total {c : Nat} (hc : c ≤ 1) (pre : List Pair) : limbs (av pre + bv pre + c) = trim ((addF c pre).1 ++ [(addF c pre).2]) := by
  obtain ⟨h1, h2, h3, h4⟩ := addF_inv hc pre
  have h6 : 1 < M := by decide
  have h5 : (addF c pre).2 < M := by omega
  rw [← limbs_val (ok_append h3 (ok_one h5)), val_snoc, h2, h4]

/-! ### A difference, limb by limb -/
def subLo (x y b : Nat) : Nat := (x + M - y - b) % M
def subHi (x y b : Nat) : Nat := if x < y + b then 1 else 0
theorem sub_split {x y b : Nat} (hx : x < M) (hy : y < M) (hb : b ≤ 1) : subLo x y b + y + b = x + M * subHi x y b := by
  unfold subLo subHi
  by_cases h : x < y + b
  · rw [if_pos h, Nat.mod_eq_of_lt (by omega)]; omega
  · rw [if_neg h]
    have : x + M - y - b = (x - y - b) + M := by omega
    rw [this, Nat.add_mod_right, Nat.mod_eq_of_lt (by omega)]; omega
theorem subHi_le (x y b : Nat) : subHi x y b ≤ 1 := by unfold subHi; split <;> omega
theorem subLo_lt (x y b : Nat) : subLo x y b < M := Nat.mod_lt _ M_pos

def subF (pre : List Pair) : List Nat × Nat := pre.foldl (fun s p => (s.1 ++ [subLo p.1.1 p.1.2 s.2], subHi p.1.1 p.1.2 s.2)) ([], 0)
theorem subF_nil : subF [] = ([], 0) := rfl
theorem subF_snoc (pre : List Pair) (p : Pair) : subF (pre ++ [p]) = ((subF pre).1 ++ [subLo p.1.1 p.1.2 (subF pre).2], subHi p.1.1 p.1.2 (subF pre).2) := by simp [subF]

theorem subF_inv (pre : List Pair) : (subF pre).2 ≤ 1 ∧ (subF pre).1.length = pre.length ∧ Ok (subF pre).1 ∧ val (subF pre).1 + bv pre = av pre + M ^ pre.length * (subF pre).2 := by
  refine snoc_ind (P := fun pre => (subF pre).2 ≤ 1 ∧ (subF pre).1.length = pre.length ∧ Ok (subF pre).1 ∧ val (subF pre).1 + bv pre = av pre + M ^ pre.length * (subF pre).2) ?_ ?_ pre
  · exact ⟨by simp [subF], rfl, ok_nil, by simp [subF, av, bv, val]⟩
  · rintro l p ⟨h1, h2, h3, h4⟩
    rw [subF_snoc]
    refine ⟨subHi_le _ _ _, by simp [h2], ok_append h3 (ok_one (subLo_lt _ _ _)), ?_⟩
    dsimp only
    rw [val_snoc, av_snoc, bv_snoc, h2, List.length_append, List.length_singleton, Nat.pow_succ]
    have e := sub_split p.2.1 p.2.2 h1
    have e2 := congrArg (M ^ l.length * ·) e
    simp only [Nat.mul_add] at e2
    rw [Nat.mul_assoc]
    omega

theorem subF_borrow (pre : List Pair) : (subF pre).2 = if av pre < bv pre then 1 else 0 := by
  obtain ⟨h1, h2, h3, h4⟩ := subF_inv pre
  have ha := av_lt pre
  have hb := bv_lt pre
  have hv := val_lt h3
  rw [h2] at hv
  rcases Nat.le_one_iff_eq_zero_or_eq_one.1 h1 with h | h
  · rw [h] at h4 ⊢; rw [if_neg (by omega)]
  · rw [h] at h4 ⊢; rw [if_pos (by omega)]

theorem subF_total (pre : List Pair) (h : bv pre ≤ av pre) : limbs (av pre - bv pre) = trim (subF pre).1 := by
  obtain ⟨h1, h2, h3, h4⟩ := subF_inv pre
  have hb := subF_borrow pre
  rw [if_neg (by omega)] at hb
  rw [hb] at h4
  rw [← limbs_val h3]
  congr 1
  omega

/-! ### Which is greater -/
def cmpN (x y : Nat) : Int := if x < y then -1 else if y < x then 1 else 0
theorem cmpN_lt {x y : Nat} (h : x < y) : cmpN x y = -1 := by simp [cmpN, h]
theorem cmpN_gt {x y : Nat} (h : y < x) : cmpN x y = 1 := by
  have : ¬ x < y := by omega
  simp [cmpN, h, this]
theorem cmpN_eq (x : Nat) : cmpN x x = 0 := by simp [cmpN]
theorem cmpN_zero {x y : Nat} (h : cmpN x y = 0) : x = y := by
  unfold cmpN at h
  split at h
  · cases h
  · split at h
    · cases h
    · omega
theorem cmpN_neg (x y : Nat) : cmpN y x = - cmpN x y := by
  unfold cmpN
  by_cases h : x < y
  · have : ¬ y < x := by omega
    simp [h, this]
  · by_cases g : y < x
    · simp [h, g]
    · simp [h, g]

theorem cmpN_top (q a b x y : Nat) (ha : a < q) (hb : b < q) : cmpN (a + q * x) (b + q * y) = if x = y then cmpN a b else cmpN x y := by
  by_cases h : x = y
  · subst h
    rw [if_pos rfl]
    unfold cmpN
    by_cases h1 : a < b
    · rw [if_pos h1, if_pos (by omega)]
    · rw [if_neg h1, if_neg (by omega)]
      by_cases h2 : b < a
      · rw [if_pos h2, if_pos (by omega)]
      · rw [if_neg h2, if_neg (by omega)]
  · rw [if_neg h]
    rcases Nat.lt_or_gt_of_ne h with h1 | h1
    · have : q * (x + 1) ≤ q * y := Nat.mul_le_mul_left _ h1
      rw [Nat.mul_add] at this
      rw [cmpN_lt h1, cmpN_lt (by omega)]
    · have : q * (y + 1) ≤ q * x := Nat.mul_le_mul_left _ h1
      rw [Nat.mul_add] at this
      rw [cmpN_gt h1, cmpN_gt (by omega)]

def cmpF (pre : List Pair) : Int := pre.foldl (fun s p => if cmpN p.1.1 p.1.2 = 0 then s else cmpN p.1.1 p.1.2) 0
theorem cmpF_snoc (pre : List Pair) (p : Pair) : cmpF (pre ++ [p]) = if cmpN p.1.1 p.1.2 = 0 then cmpF pre else cmpN p.1.1 p.1.2 := by simp [cmpF]
theorem cmpF_total (pre : List Pair) : cmpF pre = cmpN (av pre) (bv pre) := by
  refine snoc_ind (P := fun pre => cmpF pre = cmpN (av pre) (bv pre)) ?_ ?_ pre
  · rfl
  · intro l p ih
    rw [cmpF_snoc, av_snoc, bv_snoc, cmpN_top _ _ _ _ _ (av_lt l) (bv_lt l), ih]
    by_cases h : p.1.1 = p.1.2
    · rw [if_pos h, if_pos (by rw [h, cmpN_eq])]
    · rw [if_neg h, if_neg (fun e => h (cmpN_zero e))]

/-! ### Bits -/
def nbits (n : Nat) : Nat := if n = 0 then 0 else n.log2 + 1
theorem nbits_zero : nbits 0 = 0 := rfl
theorem nbits_le {n k : Nat} : nbits n ≤ k ↔ n < 2 ^ k := by
  unfold nbits
  by_cases h : n = 0
  · subst h; simp; exact Nat.two_pow_pos k
  · rw [if_neg h, Nat.add_one_le_iff, Nat.log2_lt h]
theorem nbits_top (q t : Nat) (k : Nat) (hq : q < 2 ^ k) (ht : t ≠ 0) : nbits (q + 2 ^ k * t) = k + nbits t := by
  have hp := Nat.two_pow_pos k
  have h1 : ∀ j, nbits (q + 2 ^ k * t) ≤ k + j ↔ nbits t ≤ j := by
    intro j
    rw [nbits_le, nbits_le, Nat.pow_add]
    constructor
    · intro h
      rcases Nat.lt_or_ge t (2 ^ j) with g | g
      · exact g
      · have := Nat.mul_le_mul_left (2 ^ k) g; omega
    · intro h
      have : 2 ^ k * (t + 1) ≤ 2 ^ k * 2 ^ j := Nat.mul_le_mul_left _ h
      rw [Nat.mul_add] at this; omega
  have h2 := (h1 (nbits t)).2 (Nat.le_refl _)
  have h3 : k < nbits (q + 2 ^ k * t) := by
    rcases Nat.lt_or_ge k (nbits (q + 2 ^ k * t)) with g | g
    · exact g
    · have g := nbits_le.1 g
      have : 2 ^ k * 1 ≤ 2 ^ k * t := Nat.mul_le_mul_left _ (by omega)
      omega
  have h4 := (h1 (nbits (q + 2 ^ k * t) - k)).1 (by omega)
  omega
theorem nbits_double {n : Nat} (h : n ≠ 0) (b : Nat) (hb : b ≤ 1) : nbits (b + 2 * n) = nbits n + 1 := by
  have := nbits_top b n 1 (by omega) h
  simpa [Nat.add_comm] using this
theorem M_pow (k : Nat) : M ^ k = 2 ^ (64 * k) := by rw [M_two, ← Nat.pow_mul]

/-- The bits of a number by its topmost limb. -/
theorem nbits_limbs (xs : List Nat) (h : Ok xs) (j : Nat) (hh : hgt xs = j + 1) : nbits (val xs) = 64 * j + nbits (lat xs j) ∧ lat xs j ≠ 0 ∧ j < xs.length := by
  rw [show lat xs j = xs[j]?.getD 0 from rfl]
  have hl := hgt_le xs
  have hj : j < xs.length := by omega
  have ht := trim_take xs
  rw [hh, List.take_succ_eq_append_getElem hj] at ht
  have hne : xs[j] ≠ 0 := by
    intro e
    have h1 := trim_trim xs
    rw [← ht, e, trim_snoc_zero] at h1
    have h2 := congrArg List.length h1
    have h3 := hgt_le (xs.take j)
    unfold hgt at h3
    simp at h2 h3
    omega
  refine ⟨?_, by simpa [hj] using hne, hj⟩
  rw [← val_trim, ← ht, val_snoc, M_pow]
  have hv := val_lt (ok_take h j)
  rw [M_pow] at hv
  have e : (xs.take j).length = j := by simp; omega
  rw [e] at hv ⊢
  rw [nbits_top _ _ _ hv hne]
  simp [hj]

def bitN (n i : Nat) : Nat := n / 2 ^ i % 2
theorem bitN_le (n i : Nat) : bitN n i ≤ 1 := by unfold bitN; omega
theorem bitN_limb (xs : List Nat) (h : Ok xs) : ∀ i, bitN (lat xs (i / 64)) (i % 64) = bitN (val xs) i := by
  unfold lat
  induction xs with
  | nil => intro i; simp [val, bitN]
  | cons x xs ih =>
    have hx := h x (by simp)
    have hi := ih (fun y hy => h y (by simp [hy]))
    intro i
    unfold bitN at hi ⊢
    rw [M_two] at hx
    simp only [val, M_two]
    by_cases h64 : i < 64
    · rw [show i / 64 = 0 from by omega, show i % 64 = i from by omega]
      simp only [List.getElem?_cons_zero, Option.getD_some]
      have e : x + 2 ^ 64 * val xs = x + 2 ^ i * (2 * (2 ^ (63 - i) * val xs)) := by
        have : (2 : Nat) ^ 64 = 2 ^ i * (2 * 2 ^ (63 - i)) := by
          rw [← Nat.pow_succ', ← Nat.pow_add]; congr 1; omega
        rw [this, Nat.mul_assoc, Nat.mul_assoc]
      rw [e, Nat.add_mul_div_left _ _ (Nat.two_pow_pos i)]
      omega
    · obtain ⟨k, rfl⟩ : ∃ k, i = k + 64 := ⟨i - 64, by omega⟩
      rw [show (k + 64) / 64 = k / 64 + 1 from by omega, show (k + 64) % 64 = k % 64 from by omega]
      simp only [List.getElem?_cons_succ]
      rw [hi k, Nat.add_comm k 64, Nat.pow_add, ← Nat.div_div_eq_div_mul, Nat.add_mul_div_left _ _ (Nat.two_pow_pos 64), Nat.div_eq_of_lt hx, Nat.zero_add]

end Go.Proofs.Ytmbdidompjgaaaa.Num
