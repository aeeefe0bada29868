/- A region that draws no order, by a plan as in Phase: what every operation leaves, by what the world is between the calls. Of no program. Conditions: as the theorem names them. -/
import Derived.Test.YtbjefnboppfnaaaPhase
import Derived.Tactics
namespace Go.Proofs.Ytbjefnboppfnaaa
open Go

section
variable {P : Program} {ops : Array Oper} {Q : Exit → Act → World → Prop} {W : Nat → World → Prop} {A a₀ : Act} {vs : Nat → Value} {calls lo : List Nat}

/-- How many calls lie ahead of operation i. -/
def past (calls : List Nat) (i : Nat) : Nat := (calls.filter fun c => decide (c < i)).length
/-- What is asked of the operations and of the plan: by running it. -/
def lineB (ops : Array Oper) (calls lo : List Nat) (size : Nat) : Bool :=
  Region.noSelect ops &&
  ((List.range ops.size).all fun i => match ops[i]? with
    | none => false
    | some o =>
      (match o.dst with | some d => decide (d < size) | none => true) &&
      ((List.range ops.size).all fun j => match ops[j]? with
        | none => false
        | some oj => match oj.dst with
          | some d => (!(o.looksAt ops).contains d || decide (j < i)) && (j == i || o.dst != some d)
          | none => true) &&
      decide (lo.getD i 0 ≤ past calls i) &&
      (match calls.idxOf? i with | some q => past calls i == q && past calls (i + 1) == q + 1 | none => past calls (i + 1) == past calls i)) &&
  past calls ops.size == calls.length

/-- How things stand ahead of operation i. -/
structure Line (ops : Array Oper) (W : Nat → World → Prop) (A a₀ : Act) (calls : List Nat) (i : Nat) (a : Act) (w : World) : Prop where
  le : i ≤ ops.size
  here : ∀ (j : Nat) (o : Oper) (d : Nat), j < i → ops[j]? = some o → o.dst = some d → a.tmps[d]? = A.tmps[d]?
  rest : ∀ d : Nat, (∀ (j : Nat) (o : Oper), j < i → ops[j]? = some o → o.dst ≠ some d) → a.tmps[d]? = a₀.tmps[d]?
  sz : a.tmps.size = a₀.tmps.size
  df : a.defers = a₀.defers
  world : W (past calls i) w

theorem line_walk (hB : lineB ops calls lo a₀.tmps.size = true) (hE : EndsAs ops vs A a₀) (hob : ∀ i o, ops[i]? = some o → Ob P W ops A vs calls lo i o) (hQ : ∀ w, W calls.length w → Q .normal A w) :
    ∀ (rest : List Oper) (i : Nat) (a : Act) (w : World), (∀ j, rest[j]? = ops[i + j]?) → Line ops W A a₀ calls i a w → wpList P ops Q rest a w := by
  simp only [lineB, Bool.and_eq_true, List.all_eq_true, List.mem_range, beq_iff_eq] at hB
  obtain ⟨⟨hsel, hops⟩, hend⟩ := hB
  intro rest
  induction rest with
  | nil =>
    intro i a w hr h
    have hi : i = ops.size := by
      have h0 := hr 0
      simp only [List.getElem?_nil, Nat.add_zero] at h0
      have := Array.getElem?_eq_none_iff.1 h0.symm
      have := h.le
      omega
    subst hi
    have ha : a = A := by
      have ht : a.tmps = A.tmps := by
        apply Array.ext_getElem?
        intro d
        by_cases hd : ∃ (j : Nat) (o : Oper), ops[j]? = some o ∧ o.dst = some d
        · obtain ⟨j, o, ho, hd⟩ := hd
          exact h.here j o d (Array.getElem?_eq_some_iff.1 ho).1 ho hd
        · have hd' : ∀ (j : Nat) (o : Oper), ops[j]? = some o → o.dst ≠ some d := fun j o ho e => hd ⟨j, o, ho, e⟩
          rw [h.rest d (fun j o _ ho => hd' j o ho), hE.rest d hd']
      have hf : a.defers = A.defers := by rw [h.df, hE.df]
      cases a
      cases A
      simp only at ht hf
      rw [ht, hf]
    subst ha
    have hw := h.world
    rw [hend] at hw
    exact hQ w hw
  | cons o rest ih =>
    intro i a w hr h
    have ho : ops[i]? = some o := by
      have := hr 0
      simpa using this.symm
    have hr' : ∀ j, rest[j]? = ops[i + 1 + j]? := fun j => by
      have := hr (j + 1)
      simpa [Nat.add_assoc, Nat.add_comm 1 j] using this
    have hi' : i < ops.size := (Array.getElem?_eq_some_iff.1 ho).1
    have hoi := hops i hi'
    simp only [ho, Bool.and_eq_true, List.all_eq_true, List.mem_range, decide_eq_true_eq] at hoi
    obtain ⟨⟨⟨hdst, hothers⟩, hlo⟩, hpast⟩ := hoi
    have hlooks : ∀ d, d ∈ o.looksAt ops → a.tmps[d]? = A.tmps[d]? := fun d hd => by
      by_cases hx : ∃ (j : Nat) (oj : Oper), ops[j]? = some oj ∧ oj.dst = some d
      · obtain ⟨j, oj, hoj, hjd⟩ := hx
        have := hothers j (Array.getElem?_eq_some_iff.1 hoj).1
        simp only [hoj, hjd, Bool.and_eq_true, Bool.or_eq_true, Bool.not_eq_true', decide_eq_true_eq] at this
        exact h.here j oj d (this.1.resolve_left (by simp [hd])) hoj hjd
      · have hx' : ∀ (j : Nat) (oj : Oper), ops[j]? = some oj → oj.dst ≠ some d := fun j oj hoj e => hx ⟨j, oj, hoj, e⟩
        rw [h.rest d (fun j oj _ hoj => hx' j oj hoj), hE.rest d hx']
    have hwant := wanted_same (o := o) (ops := ops) hlooks
    have hexec : execOp a.eval o = execOp A.eval o := execOp_congr o (fun cs b => Region.noSelect_spec hsel i o cs b ho) (fun x hx => eval_same hlooks x hx)
    have hOb := hob i o ho
    have go : ∀ w', W (past calls (i + 1)) w' → wpList P ops Q rest (a.put o.dst (vs i)) w' := fun w' hw' => by
      refine ih (i + 1) _ w' hr' ⟨hi', ?_, ?_, by rw [put_size, h.sz], by rw [put_defers, h.df], hw'⟩
      · intro j oj d hj hoj hd
        by_cases e : j = i
        · subst e
          rw [ho] at hoj
          injection hoj with hoj
          subst hoj
          have hds : d < a.tmps.size := by
            rw [hd] at hdst
            rw [h.sz]
            simpa using hdst
          rw [put_at hd hds, hE.dst j o d ho hd]
        · have hne : o.dst ≠ some d := by
            have := hothers j (Array.getElem?_eq_some_iff.1 hoj).1
            simp only [hoj, hd, Bool.and_eq_true, Bool.or_eq_true, beq_iff_eq, bne_iff_ne, ne_eq] at this
            exact this.2.resolve_left e
          rw [put_off hne]
          exact h.here j oj d (by omega) hoj hd
      · intro d hall
        rw [put_off (hall i o (by omega) ho)]
        exact h.rest d fun j oj hj hoj => hall j oj (by omega) hoj
    unfold wpList
    rw [hwant]
    unfold Ob at hOb
    by_cases hw : Region.wanted o (yielded ops A.tmps) = true
    · rw [if_pos hw] at hOb ⊢
      refine Or.inl ?_
      unfold Oper.wp
      rw [hexec]
      cases hcall : calls.idxOf? i with
      | some q =>
        simp only [hcall] at hOb hpast
        simp only [Bool.and_eq_true, beq_iff_eq] at hpast
        have hww := h.world
        rw [hpast.1] at hww
        rcases hOb w hww with ⟨f, args, hrun, hcs⟩ | ⟨w', hrun, hw'⟩
        · rw [hrun]
          simp only [Oper.upon]
          refine hcs.mono ?_
          rintro e w' ⟨rfl, hw'⟩
          exact go w' (by rw [hpast.2]; exact hw')
        · rw [hrun]
          simp only [Oper.upon]
          exact go w' (by rw [hpast.2]; exact hw')
      | none =>
        simp only [hcall] at hOb hpast
        simp only [beq_iff_eq] at hpast
        rw [hOb _ w hlo (List.length_filter_le _ _) h.world]
        simp only [Oper.upon]
        exact go w (by rw [hpast]; exact h.world)
    · rw [if_neg hw] at hOb ⊢
      obtain ⟨hv, hn⟩ := hOb
      simp only [hn, beq_iff_eq] at hpast
      have := go w (by rw [hpast]; exact h.world)
      rwa [hv] at this

theorem laid_endsL {l : List Oper} (hB : lineB l.toArray calls lo a₀.tmps.size = true) : EndsAs l.toArray vs (laid a₀ 0 l vs) a₀ := by
  simp only [lineB, Bool.and_eq_true, List.all_eq_true, List.mem_range] at hB
  obtain ⟨⟨_, hops⟩, _⟩ := hB
  refine ⟨fun j o d ho hd => ?_, fun d h => ?_, laid_size vs l a₀ 0, laid_defers vs l a₀ 0⟩
  · have hj := (Array.getElem?_eq_some_iff.1 ho).1
    have h1 := hops j hj
    simp only [ho, Bool.and_eq_true, List.all_eq_true, List.mem_range] at h1
    obtain ⟨⟨⟨hdst, hothers⟩, _⟩, _⟩ := h1
    rw [hd] at hdst
    have := laid_at vs d l a₀ 0 j o (by simpa using ho) hd (by simpa using hdst) (fun k x hx hk e => by
      have h2 := hothers k (by simpa using (List.getElem?_eq_some_iff.1 hx).1)
      have hx' : l.toArray[k]? = some x := by simpa using hx
      simp only [hx', e, Bool.and_eq_true, Bool.or_eq_true, beq_iff_eq, bne_iff_ne, ne_eq] at h2
      exact (h2.2.resolve_left hk) hd)
    rwa [Nat.zero_add] at this
  · refine laid_rest vs d l a₀ 0 fun o ho => ?_
    obtain ⟨j, hj⟩ := List.getElem?_of_mem ho
    exact h j o (by simpa using hj)
theorem Obs_of_endsL {l : List Oper} (hB : lineB l.toArray calls lo a₀.tmps.size = true) (h : ∀ A, EndsAs l.toArray vs A a₀ → Obs P W l.toArray A vs calls lo 0 l) : Obs P W l.toArray (laid a₀ 0 l vs) vs calls lo 0 l :=
  h _ (laid_endsL hB)

/-- A region that draws no order, by its plan: W 0 ahead of it, W q behind q calls; what each operation leaves is told ahead. -/
theorem wp_region_line {id : Nat} {l : List Oper} {w : World} (vs : Nat → Value) (calls lo : List Nat) (W : Nat → World → Prop) (hB : lineB l.toArray calls lo a₀.tmps.size = true) (hw : W 0 w)
    (hob : Obs P W l.toArray (laid a₀ 0 l vs) vs calls lo 0 l) (hQ : ∀ w, W calls.length w → Q .normal (laid a₀ 0 l vs) w) : (Code.region id l.toArray false).wp P Q a₀ w := by
  refine wp_region_lit (line_walk (vs := vs) hB (laid_endsL hB) (fun i o ho => ?_) hQ l 0 a₀ w (fun j => by simp) ⟨Nat.zero_le _, fun j _ _ hj => absurd hj (Nat.not_lt_zero j), fun _ _ => rfl, rfl, rfl, ?_⟩)
  · have := obs_at l 0 hob i o (by simpa using ho)
    rwa [Nat.zero_add] at this
  · have : past calls 0 = 0 := by simp [past]
    rw [this]
    exact hw

end
end Go.Proofs.Ytbjefnboppfnaaa
