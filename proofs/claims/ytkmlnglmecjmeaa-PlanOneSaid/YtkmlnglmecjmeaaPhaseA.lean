/- Several texts in one: each part says what it proves, and under which conditions. -/
import Derived.Orders
import Derived.StillTail

/- A region that draws its order, whose calls wait for one another: what every operation leaves, whatever the order, by what the world is between the calls. Of no program. Conditions: as the theorem names them. -/
namespace Go.Proofs.Ytkmlnglmecjmeaa
open Go

section
variable {P : Program} {ops : Array Oper} {Q : Exit → Act → World → Prop} {W : Nat → World → Prop} {A a₀ : Act} {vs : Nat → Value} {calls lo : List Nat}

/-- Whom operation o waits for. -/
def waits (o : Oper) : List Nat := (o.after.toList.filter (Region.binds .any ·)).map (·.on)
/-- How many calls are over once operation j is. -/
def over (calls lo : List Nat) (j : Nat) : Nat := match calls.idxOf? j with
  | some q => q + 1
  | none => lo.getD j 0
/-- What is asked of the operations and of the plan (which are the calls, in order; how many calls are over ahead of each operation): by running it. -/
def planB (ops : Array Oper) (calls lo : List Nat) (size : Nat) : Bool :=
  Region.noSelect ops &&
  ((List.range ops.size).all fun i => match ops[i]? with
    | none => false
    | some o =>
      ((waits o).all fun e => decide (e < i)) &&
      (match o.dst with | some d => decide (d < size) | none => true) &&
      ((List.range ops.size).all fun j => match ops[j]? with
        | none => false
        | some oj => match oj.dst with
          | some d => (!(o.looksAt ops).contains d || (waits o).contains j) && (j == i || o.dst != some d)
          | none => true) &&
      (lo.getD i 0 == 0 || (waits o).any fun e => decide (lo.getD i 0 ≤ over calls lo e))) &&
  ((List.range calls.length).all fun q => match calls[q]? with
    | some c => decide (c < ops.size) && decide (q ≤ lo.getD c 0) && (calls.idxOf? c == some q)
    | none => false)

/-- What is asked of operation o, number i, the frame being read as it is at the end. -/
def Ob (P : Program) (W : Nat → World → Prop) (ops : Array Oper) (A : Act) (vs : Nat → Value) (calls lo : List Nat) (i : Nat) (o : Oper) : Prop :=
  if Region.wanted o (yielded ops A.tmps) = true then
    match calls.idxOf? i with
    | some q => ∀ w, W q w → (∃ f args, (execOp A.eval o).run P w = .ok (.enter f args) w ∧ Calls P f args w (fun e w' => e = .returned (vs i) ∧ W (q + 1) w')) ∨ (∃ w', (execOp A.eval o).run P w = .ok (.value (vs i)) w' ∧ W (q + 1) w') ∨ (o.dst = none ∧ ∃ w', (execOp A.eval o).run P w = .ok .skip w' ∧ W (q + 1) w')
    | none => ∀ p w, lo.getD i 0 ≤ p → p ≤ calls.length → W p w → (execOp A.eval o).run P w = .ok (.value (vs i)) w
  else vs i = undef ∧ calls.idxOf? i = none

/-- How things stand when these have come up. -/
structure Stands (ops : Array Oper) (W : Nat → World → Prop) (A a₀ : Act) (calls lo : List Nat) (listed : Array Bool) (p : Nat) (a : Act) (w : World) : Prop where
  size : listed.size = ops.size
  cs : ∀ (q c : Nat), calls[q]? = some c → (listed.getD c false = true ↔ q < p)
  since : ∀ j, listed.getD j false = true → over calls lo j ≤ p
  le : p ≤ calls.length
  here : ∀ (j : Nat) (o : Oper) (d : Nat), ops[j]? = some o → listed.getD j false = true → o.dst = some d → a.tmps[d]? = A.tmps[d]?
  rest : ∀ d : Nat, (∀ (j : Nat) (o : Oper), ops[j]? = some o → listed.getD j false = true → o.dst ≠ some d) → a.tmps[d]? = a₀.tmps[d]?
  sz : a.tmps.size = a₀.tmps.size
  df : a.defers = a₀.defers
  world : W p w

/-- What the frame is at the end. -/
structure EndsAs (ops : Array Oper) (vs : Nat → Value) (A a₀ : Act) : Prop where
  dst : ∀ (j : Nat) (o : Oper) (d : Nat), ops[j]? = some o → o.dst = some d → A.tmps[d]? = some (vs j)
  rest : ∀ d : Nat, (∀ (j : Nat) (o : Oper), ops[j]? = some o → o.dst ≠ some d) → A.tmps[d]? = a₀.tmps[d]?
  sz : A.tmps.size = a₀.tmps.size
  df : A.defers = a₀.defers

theorem getD_false_of {listed : Array Bool} {j : Nat} (h : listed.getD j true = false) : listed.getD j false = false := by
  rcases Nat.lt_or_ge j listed.size with h' | h'
  · simp [h'] at h ⊢; exact h
  · simp [Array.getElem?_eq_none h'] at h
theorem getD_set_false {listed : Array Bool} {i j : Nat} (h : (listed.setIfInBounds i true).getD j false = true) : j = i ∨ listed.getD j false = true := by
  by_cases e : j = i
  · exact Or.inl e
  · rw [getD_set_ne false (Ne.symm e)] at h; exact Or.inr h

theorem eval_same {o : Oper} {a : Act} (h : ∀ d, d ∈ o.looksAt ops → a.tmps[d]? = A.tmps[d]?) (x : Operand) (hx : x ∈ o.op.operands) : a.eval x = A.eval x := by
  cases x with
  | tmp t =>
    have := h t (List.mem_append_left _ (List.mem_filterMap.2 ⟨.tmp t, by simpa using hx, rfl⟩))
    simp only [Act.eval, Array.getD_eq_getD_getElem?, this]
  | _ => rfl
theorem wanted_same {o : Oper} {a : Act} (h : ∀ d, d ∈ o.looksAt ops → a.tmps[d]? = A.tmps[d]?) : Region.wanted o (yielded ops a.tmps) = Region.wanted o (yielded ops A.tmps) := by
  unfold Region.wanted
  cases hg : o.guard with
  | none => rfl
  | some gw =>
    obtain ⟨g, want⟩ := gw
    have : yielded ops a.tmps g = yielded ops A.tmps g := by
      unfold yielded
      cases hd : (ops[g]?).bind (·.dst) with
      | none => rfl
      | some d =>
        have := h d (List.mem_append_right _ (by simp [hg, hd]))
        simp only [Option.bind_some, this]
    simp only [this]

theorem put_at {a : Act} {dst : Option Tmp} {v : Value} {d : Nat} (h : dst = some d) (hd : d < a.tmps.size) : (a.put dst v).tmps[d]? = some v := by
  subst h
  simp [Act.put, hd]
theorem put_off {a : Act} {dst : Option Tmp} {v : Value} {d : Nat} (h : dst ≠ some d) : (a.put dst v).tmps[d]? = a.tmps[d]? := by
  cases dst with
  | none => rfl
  | some e =>
    have : e ≠ d := fun x => h (by rw [x])
    simp [Act.put, Array.getElem?_setIfInBounds_ne this]
theorem put_size (a : Act) (dst : Option Tmp) (v : Value) : (a.put dst v).tmps.size = a.tmps.size := by cases dst <;> simp [Act.put]
theorem put_defers (a : Act) (dst : Option Tmp) (v : Value) : (a.put dst v).defers = a.defers := by cases dst <;> rfl

/-- Behind one operation more. -/
theorem Stands.step (hplan : planB ops calls lo a₀.tmps.size = true) (hE : EndsAs ops vs A a₀) {listed : Array Bool} {p p' i : Nat} {a : Act} {w w' : World} {o : Oper} (h : Stands ops W A a₀ calls lo listed p a w)
    (hi : ops[i]? = some o) (hun : listed.getD i true = false) (hp : (calls.idxOf? i = some p ∧ p' = p + 1) ∨ (calls.idxOf? i = none ∧ p' = p)) (hlo : lo.getD i 0 ≤ p) (hw : W p' w') :
    Stands ops W A a₀ calls lo (listed.setIfInBounds i true) p' (a.put o.dst (vs i)) w' := by
  simp only [planB, Bool.and_eq_true, List.all_eq_true, List.mem_range] at hplan
  obtain ⟨⟨hsel, hops⟩, hcalls⟩ := hplan
  have hlt : i < listed.size := by
    rcases Nat.lt_or_ge i listed.size with h' | h'
    · exact h'
    · simp [Array.getElem?_eq_none h'] at hun
  have hthis : (listed.setIfInBounds i true).getD i false = true := by simp [hlt]
  have hnow : listed.getD i false = false := getD_false_of hun
  have hoi := hops i (Array.getElem?_eq_some_iff.1 hi).1
  simp only [hi, Bool.and_eq_true, List.all_eq_true, List.mem_range] at hoi
  obtain ⟨⟨⟨hord, hdst⟩, hothers⟩, _⟩ := hoi
  have hdsz : ∀ d, o.dst = some d → d < a.tmps.size := fun d hd => by
    rw [hd] at hdst
    rw [h.sz]
    simpa using hdst
  have hidx : ∀ q c, calls[q]? = some c → calls.idxOf? c = some q := fun q c hc => by
    have := hcalls q (List.getElem?_eq_some_iff.1 hc).1
    simp only [hc, Bool.and_eq_true, beq_iff_eq] at this
    exact this.2
  have hset : ∀ j, j ≠ i → (listed.setIfInBounds i true).getD j false = listed.getD j false := fun j e => getD_set_ne false (Ne.symm e)
  refine ⟨by simp [h.size], ?_, ?_, ?_, ?_, ?_, ?_, ?_, hw⟩
  · intro q c hc
    by_cases e : c = i
    · subst e
      rw [hthis]
      have hq := hidx q c hc
      rcases hp with ⟨h1, rfl⟩ | ⟨h1, rfl⟩
      · rw [h1] at hq
        injection hq with hq
        simp [hq]
      · rw [h1] at hq; cases hq
    · rw [hset c e, h.cs q c hc]
      rcases hp with ⟨h1, rfl⟩ | ⟨_, rfl⟩
      · constructor
        · intro; omega
        · intro hq
          have : q ≠ p := fun hqp => by
            subst hqp
            apply e
            have h2 := hidx q c hc
            have h3 : calls[q]? = some i := by
              have := List.idxOf?_eq_some_iff.1 h1
              obtain ⟨hql, hqe, _⟩ := this
              rw [List.getElem?_eq_getElem hql]
              simp_all
            rw [hc] at h3
            injection h3
          omega
      · exact Iff.rfl
  · intro j hj
    rcases getD_set_false hj with rfl | hj
    · unfold over
      rcases hp with ⟨h1, rfl⟩ | ⟨h1, rfl⟩
      · rw [h1]; exact Nat.le_refl _
      · rw [h1]; exact hlo
    · have := h.since j hj
      rcases hp with ⟨_, rfl⟩ | ⟨_, rfl⟩ <;> omega
  · rcases hp with ⟨h1, rfl⟩ | ⟨_, rfl⟩
    · have := List.idxOf?_eq_some_iff.1 h1
      obtain ⟨hql, _⟩ := this
      omega
    · exact h.le
  · intro j oj d hoj hj hd
    by_cases e : j = i
    · subst e
      rw [hi] at hoj
      injection hoj with hoj
      subst hoj
      rw [put_at hd (hdsz d hd), hE.dst j o d hi hd]
    · have hj' : listed.getD j false = true := by rw [← hset j e]; exact hj
      have hne : o.dst ≠ some d := by
        have := hothers j (Array.getElem?_eq_some_iff.1 hoj).1
        simp only [hoj, hd, Bool.and_eq_true, Bool.or_eq_true, beq_iff_eq, bne_iff_ne, ne_eq] at this
        exact this.2.resolve_left e
      rw [put_off hne]
      exact h.here j oj d hoj hj' hd
  · intro d hall
    have hne : o.dst ≠ some d := hall i o hi hthis
    rw [put_off hne]
    refine h.rest d fun j oj hoj hj => ?_
    by_cases e : j = i
    · subst e; rw [hnow] at hj; cases hj
    · exact hall j oj hoj (by rw [hset j e]; exact hj)
  · rw [put_size, h.sz]
  · rw [put_defers, h.df]

theorem unlisted_set {listed : Array Bool} {i : Nat} (h : listed.getD i true = false) : (listed.setIfInBounds i true).toList.count false + 1 = listed.toList.count false := by
  have hlt : i < listed.size := by
    rcases Nat.lt_or_ge i listed.size with h' | h'
    · exact h'
    · simp [Array.getElem?_eq_none h'] at h
  have hv : listed[i] = false := by simpa [hlt] using h
  have hpos : 0 < listed.toList.count false := List.count_pos_iff.2 (by rw [← hv]; simp)
  rw [Array.toList_setIfInBounds, List.count_set (by simpa using hlt)]
  have e1 : (listed.toList[i]'(by simpa using hlt) == false) = true := by simp [hv]
  rw [if_pos e1, if_neg (by simp)]
  omega

/-- Whatever comes up next. -/
theorem any_of_stands (hplan : planB ops calls lo a₀.tmps.size = true) (hE : EndsAs ops vs A a₀) (hob : ∀ i o, ops[i]? = some o → Ob P W ops A vs calls lo i o)
    (hQ : ∀ w, W calls.length w → Q .normal A w) :
    ∀ (fuel : Nat) (listed : Array Bool) (p : Nat) (a : Act) (w : World), listed.toList.count false ≤ fuel → Stands ops W A a₀ calls lo listed p a w → wpAny P .any ops Q fuel listed a w := by
  have hplan' := hplan
  simp only [planB, Bool.and_eq_true, List.all_eq_true, List.mem_range] at hplan'
  obtain ⟨⟨hsel, hops⟩, hcalls⟩ := hplan'
  -- all that is not there waits for nothing that is not there
  have hready : ∀ (listed : Array Bool) (p : Nat) (a : Act) (w : World), Stands ops W A a₀ calls lo listed p a w → Region.ready .any ops listed = [] → ∀ i, i < ops.size → listed.getD i false = true := by
    intro listed p a w h hr i
    induction i using Nat.strongRecOn with
    | ind i ih =>
      intro hi
      have hsz : i < listed.size := by rw [h.size]; exact hi
      cases hb : listed.getD i false with
      | true => rfl
      | false =>
        have hm : i ∈ Region.ready .any ops listed := by
          rw [mem_ready]
          refine ⟨by simpa [hsz] using hb, ops[i], Array.getElem?_eq_getElem hi, fun e he hbd => ?_⟩
          have hoi := hops i hi
          simp only [Array.getElem?_eq_getElem hi, Bool.and_eq_true, List.all_eq_true] at hoi
          have hel : e.on < i := by
            have := hoi.1.1.1 e.on (List.mem_map.2 ⟨e, List.mem_filter.2 ⟨by simpa using he, hbd⟩, rfl⟩)
            simpa using this
          exact ih e.on hel (by omega)
        rw [hr] at hm
        cases hm
  have hend : ∀ (listed : Array Bool) (p : Nat) (a : Act) (w : World), Stands ops W A a₀ calls lo listed p a w → Region.ready .any ops listed = [] → Q .normal a w := by
    intro listed p a w h hr
    have hall := hready listed p a w h hr
    have ha : a = A := by
      have ht : a.tmps = A.tmps := by
        apply Array.ext_getElem?
        intro d
        by_cases hd : ∃ (j : Nat) (o : Oper), ops[j]? = some o ∧ o.dst = some d
        · obtain ⟨j, o, ho, hd⟩ := hd
          exact h.here j o d ho (hall j (Array.getElem?_eq_some_iff.1 ho).1) hd
        · have hd' : ∀ (j : Nat) (o : Oper), ops[j]? = some o → o.dst ≠ some d := fun j o ho e => hd ⟨j, o, ho, e⟩
          rw [h.rest d (fun j o ho _ => hd' j o ho), hE.rest d hd']
      have hf : a.defers = A.defers := by rw [h.df, hE.df]
      cases a
      cases A
      simp only at ht hf
      rw [ht, hf]
    have hp : p = calls.length := by
      rcases Nat.lt_or_ge p calls.length with hlt | hge
      · have hc := List.getElem?_eq_getElem hlt
        have h1 := hcalls p hlt
        simp only [hc, Bool.and_eq_true, decide_eq_true_eq] at h1
        have := (h.cs p _ hc).1 (hall _ h1.1.1)
        omega
      · have := h.le; omega
    subst ha hp
    exact hQ w h.world
  intro fuel
  induction fuel with
  | zero =>
    intro listed p a w hc h
    have hr : Region.ready .any ops listed = [] := by
      apply List.eq_nil_iff_forall_not_mem.2
      intro i hi
      have := unlisted_set (mem_ready.1 hi).1
      omega
    exact ⟨hr, hend listed p a w h hr⟩
  | succ fuel ih =>
    intro listed p a w hc h
    refine ⟨hend listed p a w h, fun i hi => ?_⟩
    obtain ⟨hun, o, ho, hall⟩ := mem_ready.1 hi
    have hi' : i < ops.size := (Array.getElem?_eq_some_iff.1 ho).1
    have hcnt := unlisted_set hun
    have hoi := hops i hi'
    simp only [ho, Bool.and_eq_true, List.all_eq_true, List.mem_range] at hoi
    obtain ⟨⟨⟨hord, hdst⟩, hothers⟩, hlow⟩ := hoi
    have hwaits : ∀ e, e ∈ waits o → listed.getD e false = true := fun e he => by
      obtain ⟨x, hx, rfl⟩ := List.mem_map.1 he
      obtain ⟨hx1, hx2⟩ := List.mem_filter.1 hx
      exact hall x (by simpa using hx1) hx2
    have hlo : lo.getD i 0 ≤ p := by
      rw [Bool.or_eq_true] at hlow
      rcases hlow with h0 | h0
      · rw [beq_iff_eq] at h0; omega
      · obtain ⟨e, he, hle⟩ := List.any_eq_true.1 h0
        have := h.since e (hwaits e he)
        simp only [decide_eq_true_eq] at hle
        omega
    have hlooks : ∀ d, d ∈ o.looksAt ops → a.tmps[d]? = A.tmps[d]? := fun d hd => by
      by_cases hx : ∃ (j : Nat) (oj : Oper), ops[j]? = some oj ∧ oj.dst = some d
      · obtain ⟨j, oj, hoj, hjd⟩ := hx
        have := hothers j (Array.getElem?_eq_some_iff.1 hoj).1
        simp only [hoj, hjd, Bool.and_eq_true, Bool.or_eq_true, Bool.not_eq_true'] at this
        have hin : (waits o).contains j = true := this.1.resolve_left (by simp [hd])
        exact h.here j oj d hoj (hwaits j (by simpa using hin)) hjd
      · have hx' : ∀ (j : Nat) (oj : Oper), ops[j]? = some oj → oj.dst ≠ some d := fun j oj hoj e => hx ⟨j, oj, hoj, e⟩
        rw [h.rest d (fun j oj hoj _ => hx' j oj hoj), hE.rest d hx']
    have hwant := wanted_same (o := o) (ops := ops) hlooks
    have hexec : execOp a.eval o = execOp A.eval o := execOp_congr o (fun cs b => Region.noSelect_spec hsel i o cs b ho) (fun x hx => eval_same hlooks x hx)
    have hOb := hob i o ho
    have go : ∀ p' w', ((calls.idxOf? i = some p ∧ p' = p + 1) ∨ (calls.idxOf? i = none ∧ p' = p)) → W p' w' → wpAny P .any ops Q fuel (listed.setIfInBounds i true) (a.put o.dst (vs i)) w' := fun p' w' hp hw =>
      ih _ p' _ w' (by omega) (h.step hplan hE ho hun hp hlo hw)
    unfold wpOp
    simp only [ho]
    rw [hwant]
    unfold Ob at hOb
    by_cases hw : Region.wanted o (yielded ops A.tmps) = true
    · rw [if_pos hw] at hOb ⊢
      refine Or.inl ?_
      unfold Oper.wp
      rw [hexec]
      cases hcall : calls.idxOf? i with
      | some q =>
        rw [hcall] at hOb
        have hqp : q = p := by
          have hcq : calls[q]? = some i := by
            obtain ⟨hql, hqe, _⟩ := List.idxOf?_eq_some_iff.1 hcall
            rw [List.getElem?_eq_getElem hql]
            simp_all
          have h1 := h.cs q i hcq
          have h2 : ¬ q < p := fun hlt => by
            have := h1.2 hlt
            rw [getD_false_of hun] at this
            cases this
          have h3 := hcalls q (List.getElem?_eq_some_iff.1 hcq).1
          simp only [hcq, Bool.and_eq_true, decide_eq_true_eq] at h3
          omega
        subst hqp
        rcases hOb w h.world with ⟨f, args, hrun, hcs⟩ | ⟨w', hrun, hw'⟩ | ⟨hd, w', hrun, hw'⟩
        · rw [hrun]
          simp only [Oper.upon]
          refine hcs.mono ?_
          rintro e w' ⟨rfl, hw'⟩
          exact go (q + 1) w' (Or.inl ⟨hcall, rfl⟩) hw'
        · rw [hrun]
          simp only [Oper.upon]
          exact go (q + 1) w' (Or.inl ⟨hcall, rfl⟩) hw'
        · rw [hrun]
          simp only [Oper.upon]
          have hg := go (q + 1) w' (Or.inl ⟨hcall, rfl⟩) hw'
          rw [hd] at hg ⊢
          exact hg
      | none =>
        rw [hcall] at hOb
        rw [hOb p w hlo h.le h.world]
        simp only [Oper.upon]
        exact go p w (Or.inr ⟨hcall, rfl⟩) h.world
    · rw [if_neg hw] at hOb ⊢
      obtain ⟨hv, hn⟩ := hOb
      have := go p w (Or.inr ⟨hn, rfl⟩) h.world
      rwa [hv] at this

theorem ob_val {i : Nat} {o : Oper} (hw : Region.wanted o (yielded ops A.tmps) = true) (hc : calls.idxOf? i = none) (h : ∀ p w, lo.getD i 0 ≤ p → p ≤ calls.length → W p w → (execOp A.eval o).run P w = .ok (.value (vs i)) w) : Ob P W ops A vs calls lo i o := by
  unfold Ob
  rw [if_pos hw, hc]
  exact h
theorem ob_move {i : Nat} {o : Oper} (x : Operand) (hx : o.op = .move x) (hw : Region.wanted o (yielded ops A.tmps) = true) (hc : calls.idxOf? i = none) (h : A.eval x = vs i) : Ob P W ops A vs calls lo i o :=
  ob_val hw hc fun _ w _ _ _ => by
    unfold execOp
    rw [hx, ← h]
    rfl
theorem ob_skip {i : Nat} {o : Oper} (hw : Region.wanted o (yielded ops A.tmps) = false) (hc : calls.idxOf? i = none) (hv : vs i = undef) : Ob P W ops A vs calls lo i o := by
  unfold Ob
  rw [if_neg (by rw [hw]; exact Bool.false_ne_true)]
  exact ⟨hv, hc⟩
theorem ob_call {i q f : Nat} {o : Oper} {args : Array Value} (hw : Region.wanted o (yielded ops A.tmps) = true) (hc : calls.idxOf? i = some q) (hr : ∀ w, (execOp A.eval o).run P w = .ok (.enter f args) w)
    (h : ∀ w, W q w → Calls P f args w (fun e w' => e = .returned (vs i) ∧ W (q + 1) w')) : Ob P W ops A vs calls lo i o := by
  unfold Ob
  rw [if_pos hw, hc]
  exact fun w hw => Or.inl ⟨f, args, hr w, h w hw⟩
/-- An operation that makes memory, in its place among the calls. -/
theorem ob_make {i q : Nat} {o : Oper} (hw : Region.wanted o (yielded ops A.tmps) = true) (hc : calls.idxOf? i = some q) (h : ∀ w, W q w → ∃ w', (execOp A.eval o).run P w = .ok (.value (vs i)) w' ∧ W (q + 1) w') : Ob P W ops A vs calls lo i o := by
  unfold Ob
  rw [if_pos hw, hc]
  exact fun w hw => Or.inr (Or.inl (h w hw))
/-- A store, in its place among the calls. -/
theorem ob_store {i q : Nat} {o : Oper} (hd : o.dst = none) (hw : Region.wanted o (yielded ops A.tmps) = true) (hc : calls.idxOf? i = some q) (h : ∀ w, W q w → ∃ w', (execOp A.eval o).run P w = .ok .skip w' ∧ W (q + 1) w') : Ob P W ops A vs calls lo i o := by
  unfold Ob
  rw [if_pos hw, hc]
  exact fun w hw => Or.inr (Or.inr ⟨hd, h w hw⟩)
theorem want_none {o : Oper} {y : Nat → Option Bool} (h : o.guard = none) : Region.wanted o y = true := by simp [Region.wanted, h]
theorem want_is (hE : EndsAs ops vs A a₀) {o og : Oper} {g d : Nat} {b x : Bool} (hg : o.guard = some (g, b)) (ho : ops[g]? = some og) (hd : og.dst = some d) (hv : vs g = .bool x) : Region.wanted o (yielded ops A.tmps) = (x == b) := by
  have h1 := hE.dst g og d ho hd
  simp [Region.wanted, hg, yielded, ho, hd, h1, hv]
theorem want_undef (hE : EndsAs ops vs A a₀) {o og : Oper} {g d : Nat} {b : Bool} (hg : o.guard = some (g, b)) (ho : ops[g]? = some og) (hd : og.dst = some d) (hv : vs g = undef) : Region.wanted o (yielded ops A.tmps) = false := by
  have h1 := hE.dst g og d ho hd
  simp [Region.wanted, hg, yielded, ho, hd, h1, hv, undef]
theorem eval_dst (hE : EndsAs ops vs A a₀) {j d : Nat} {o : Oper} (ho : ops[j]? = some o) (hd : o.dst = some d) : A.eval (.tmp d) = vs j := by
  simp [Act.eval, hE.dst j o d ho hd]
theorem at_out (hE : EndsAs ops vs A a₀) {d : Nat} (h : (ops.all fun o => o.dst != some d) = true) : A.tmps[d]? = a₀.tmps[d]? :=
  hE.rest d (fun j o ho e => by
    have := Array.all_eq_true_iff_forall_mem.1 h o (Array.mem_of_getElem? ho)
    simp [e] at this)
theorem eval_out (hE : EndsAs ops vs A a₀) {d : Nat} (h : (ops.all fun o => o.dst != some d) = true) : A.eval (.tmp d) = a₀.eval (.tmp d) := by
  have := hE.rest d (fun j o ho e => by
    have := Array.all_eq_true_iff_forall_mem.1 h o (Array.mem_of_getElem? ho)
    simp [e] at this)
  simp [Act.eval, this]

/-- The obligations, one behind the other. -/
def Obs (P : Program) (W : Nat → World → Prop) (ops : Array Oper) (A : Act) (vs : Nat → Value) (calls lo : List Nat) : Nat → List Oper → Prop
  | _, [] => True
  | i, o :: rest => Ob P W ops A vs calls lo i o ∧ Obs P W ops A vs calls lo (i + 1) rest
theorem obs_at : ∀ (l : List Oper) (k : Nat), Obs P W ops A vs calls lo k l → ∀ i o, l[i]? = some o → Ob P W ops A vs calls lo (k + i) o
  | [], _, _, i, o, h => by simp at h
  | x :: l, k, h, 0, o, e => by
    simp only [List.getElem?_cons_zero, Option.some.injEq] at e
    subst e
    exact h.1
  | x :: l, k, h, i + 1, o, e => by
    have := obs_at l (k + 1) h.2 i o (by simpa using e)
    rwa [show k + 1 + i = k + (i + 1) from by omega] at this

/-- The frame behind these values. -/
def laid (a : Act) : Nat → List Oper → (Nat → Value) → Act
  | _, [], _ => a
  | i, o :: rest, vs => laid (a.put o.dst (vs i)) (i + 1) rest vs
theorem laid_size (vs : Nat → Value) : ∀ (l : List Oper) (a : Act) (i : Nat), (laid a i l vs).tmps.size = a.tmps.size
  | [], _, _ => rfl
  | o :: l, a, i => by
    rw [laid, laid_size vs l, put_size]
theorem laid_defers (vs : Nat → Value) : ∀ (l : List Oper) (a : Act) (i : Nat), (laid a i l vs).defers = a.defers
  | [], _, _ => rfl
  | o :: l, a, i => by
    rw [laid, laid_defers vs l, put_defers]
theorem laid_rest (vs : Nat → Value) (d : Nat) : ∀ (l : List Oper) (a : Act) (i : Nat), (∀ o, o ∈ l → o.dst ≠ some d) → (laid a i l vs).tmps[d]? = a.tmps[d]?
  | [], _, _, _ => rfl
  | o :: l, a, i, h => by
    rw [laid, laid_rest vs d l _ _ (fun x hx => h x (by simp [hx])), put_off (h o (by simp))]
theorem laid_at (vs : Nat → Value) (d : Nat) : ∀ (l : List Oper) (a : Act) (i j : Nat) (o : Oper), l[j]? = some o → o.dst = some d → d < a.tmps.size → (∀ k x, l[k]? = some x → k ≠ j → x.dst ≠ some d) → (laid a i l vs).tmps[d]? = some (vs (i + j))
  | [], _, _, _, _, h, _, _, _ => by simp at h
  | x :: l, a, i, 0, o, h, hd, hs, hu => by
    simp only [List.getElem?_cons_zero, Option.some.injEq] at h
    subst h
    rw [laid, laid_rest vs d l _ _ (fun y hy => by
      obtain ⟨k, hk⟩ := List.getElem?_of_mem hy
      exact hu (k + 1) y (by simpa using hk) (by omega)), put_at hd hs]
    rfl
  | x :: l, a, i, j + 1, o, h, hd, hs, hu => by
    rw [laid, laid_at vs d l _ (i + 1) j o (by simpa using h) hd (by rw [put_size]; exact hs) (fun k y hy hk => hu (k + 1) y (by simpa using hy) (by omega))]
    congr 2
    omega
theorem laid_ends {l : List Oper} (hplan : planB l.toArray calls lo a₀.tmps.size = true) : EndsAs l.toArray vs (laid a₀ 0 l vs) a₀ := by
  simp only [planB, Bool.and_eq_true, List.all_eq_true, List.mem_range] at hplan
  obtain ⟨⟨_, hops⟩, _⟩ := hplan
  refine ⟨fun j o d ho hd => ?_, fun d h => ?_, laid_size vs l a₀ 0, laid_defers vs l a₀ 0⟩
  · have hj := (Array.getElem?_eq_some_iff.1 ho).1
    have h1 := hops j hj
    simp only [ho, Bool.and_eq_true, List.all_eq_true, List.mem_range] at h1
    obtain ⟨⟨⟨_, hdst⟩, hothers⟩, _⟩ := h1
    rw [hd] at hdst
    have := laid_at vs d l a₀ 0 j o (by simpa using ho) hd (by simpa using hdst) (fun k x hx hk e => by
      have h2 := hothers k (by simpa using (List.getElem?_eq_some_iff.1 hx).1)
      have hx' : l.toArray[k]? = some x := by simpa using hx
      simp only [hx', e, Bool.and_eq_true, Bool.or_eq_true, beq_iff_eq, bne_iff_ne, ne_eq] at h2
      exact (h2.2.resolve_left hk) hd)
    rwa [Nat.zero_add] at this
  · refine laid_rest vs d l a₀ 0 fun o ho => ?_
    obtain ⟨j, hj⟩ := List.getElem?_of_mem ho
    exact h j o (by simpa using hj)

/-- To show the obligations at a frame of which no more is known than what lies in it. -/
theorem Obs_of_ends {l : List Oper} (hplan : planB l.toArray calls lo a₀.tmps.size = true) (h : ∀ A, EndsAs l.toArray vs A a₀ → Obs P W l.toArray A vs calls lo 0 l) : Obs P W l.toArray (laid a₀ 0 l vs) vs calls lo 0 l :=
  h _ (laid_ends hplan)
theorem none_yet (n c : Nat) : (Array.replicate n false).getD c false = false := by
  rw [Array.getD_eq_getD_getElem?, Array.getElem?_replicate]
  split <;> rfl

/-- A region that draws its order, by its plan: W 0 behind the draw, W q behind q calls; what each operation leaves is told ahead. -/
theorem wp_region_plan {id : Nat} {l : List Oper} {w : World} (vs : Nat → Value) (calls lo : List Nat) (W : Nat → World → Prop) (hm : P.follows .mixedOrders = true) (hplan : planB l.toArray calls lo a₀.tmps.size = true) (hw : W 0 { w with drawn := w.drawn + 1 })
    (hob : Obs P W l.toArray (laid a₀ 0 l vs) vs calls lo 0 l) (hQ : ∀ w, W calls.length w → Q .normal (laid a₀ 0 l vs) w) : (Code.region id l.toArray true).wp P Q a₀ w := by
  refine wp_region_any hm (any_of_stands hplan (laid_ends hplan) (fun i o ho => ?_) hQ _ _ 0 a₀ _ ?_ ⟨by simp, ?_, ?_, Nat.zero_le _, ?_, ?_, rfl, rfl, hw⟩)
  · have := obs_at l 0 hob i o (by simpa using ho)
    rwa [Nat.zero_add] at this
  · simp [Array.toList_replicate]
  · intro q c _
    have := none_yet l.toArray.size c
    rw [this]
    simp
  · intro j hj
    have := none_yet l.toArray.size j
    rw [this] at hj
    cases hj
  · intro j o d _ hj _
    have := none_yet l.toArray.size j
    rw [this] at hj
    cases hj
  · intro d _
    rfl

end
end Go.Proofs.Ytkmlnglmecjmeaa


/- A region that draws its order, whose head goes by a plan (Phase) and whose tail, each of which waits for all ahead of it, is walked in order. Of no program. Conditions: as the theorem names them. -/
namespace Go.Proofs.Ytkmlnglmecjmeaa
open Go

section
variable {P : Program} {ops : Array Oper} {Q : Exit → Act → World → Prop} {W : Nat → World → Prop} {A a₀ : Act} {vs : Nat → Value} {calls lo : List Nat} {n : Nat}

/-- The tail begins behind n operations. -/
def tailB (ops : Array Oper) (n : Nat) (calls : List Nat) : Bool :=
  decide (n < ops.size) && Region.sinkB .any ops n && Region.chainB .any ops n && Region.seqB .any ops (ops.size - n) n (Array.replicate n true ++ Array.replicate (ops.size - n) false) && calls.all fun c => decide (c < n)

/-- What the frame is at the head's end. -/
structure EndsAt (ops : Array Oper) (n : Nat) (vs : Nat → Value) (A a₀ : Act) : Prop where
  dst : ∀ (j : Nat) (o : Oper) (d : Nat), j < n → ops[j]? = some o → o.dst = some d → A.tmps[d]? = some (vs j)
  rest : ∀ d : Nat, (∀ (j : Nat) (o : Oper), j < n → ops[j]? = some o → o.dst ≠ some d) → A.tmps[d]? = a₀.tmps[d]?
  sz : A.tmps.size = a₀.tmps.size
  df : A.defers = a₀.defers

theorem Stands.stepT (hplan : planB ops calls lo a₀.tmps.size = true) (hE : EndsAt ops n vs A a₀) {listed : Array Bool} {p p' i : Nat} {a : Act} {w w' : World} {o : Oper} (h : Stands ops W A a₀ calls lo listed p a w) (hin : i < n)
    (hi : ops[i]? = some o) (hun : listed.getD i true = false) (hp : (calls.idxOf? i = some p ∧ p' = p + 1) ∨ (calls.idxOf? i = none ∧ p' = p)) (hlo : lo.getD i 0 ≤ p) (hw : W p' w') :
    Stands ops W A a₀ calls lo (listed.setIfInBounds i true) p' (a.put o.dst (vs i)) w' := by
  simp only [planB, Bool.and_eq_true, List.all_eq_true, List.mem_range] at hplan
  obtain ⟨⟨hsel, hops⟩, hcalls⟩ := hplan
  have hlt : i < listed.size := by
    rcases Nat.lt_or_ge i listed.size with h' | h'
    · exact h'
    · simp [Array.getElem?_eq_none h'] at hun
  have hthis : (listed.setIfInBounds i true).getD i false = true := by simp [hlt]
  have hnow : listed.getD i false = false := getD_false_of hun
  have hoi := hops i (Array.getElem?_eq_some_iff.1 hi).1
  simp only [hi, Bool.and_eq_true, List.all_eq_true, List.mem_range] at hoi
  obtain ⟨⟨⟨hord, hdst⟩, hothers⟩, _⟩ := hoi
  have hdsz : ∀ d, o.dst = some d → d < a.tmps.size := fun d hd => by
    rw [hd] at hdst
    rw [h.sz]
    simpa using hdst
  have hidx : ∀ q c, calls[q]? = some c → calls.idxOf? c = some q := fun q c hc => by
    have := hcalls q (List.getElem?_eq_some_iff.1 hc).1
    simp only [hc, Bool.and_eq_true, beq_iff_eq] at this
    exact this.2
  have hset : ∀ j, j ≠ i → (listed.setIfInBounds i true).getD j false = listed.getD j false := fun j e => getD_set_ne false (Ne.symm e)
  refine ⟨by simp [h.size], ?_, ?_, ?_, ?_, ?_, ?_, ?_, hw⟩
  · intro q c hc
    by_cases e : c = i
    · subst e
      rw [hthis]
      have hq := hidx q c hc
      rcases hp with ⟨h1, rfl⟩ | ⟨h1, rfl⟩
      · rw [h1] at hq
        injection hq with hq
        simp [hq]
      · rw [h1] at hq; cases hq
    · rw [hset c e, h.cs q c hc]
      rcases hp with ⟨h1, rfl⟩ | ⟨_, rfl⟩
      · constructor
        · intro; omega
        · intro hq
          have : q ≠ p := fun hqp => by
            subst hqp
            apply e
            have h3 : calls[q]? = some i := by
              have := List.idxOf?_eq_some_iff.1 h1
              obtain ⟨hql, hqe, _⟩ := this
              rw [List.getElem?_eq_getElem hql]
              simp_all
            rw [hc] at h3
            injection h3
          omega
      · exact Iff.rfl
  · intro j hj
    rcases getD_set_false hj with rfl | hj
    · unfold over
      rcases hp with ⟨h1, rfl⟩ | ⟨h1, rfl⟩
      · rw [h1]; exact Nat.le_refl _
      · rw [h1]; exact hlo
    · have := h.since j hj
      rcases hp with ⟨_, rfl⟩ | ⟨_, rfl⟩ <;> omega
  · rcases hp with ⟨h1, rfl⟩ | ⟨_, rfl⟩
    · have := List.idxOf?_eq_some_iff.1 h1
      obtain ⟨hql, _⟩ := this
      omega
    · exact h.le
  · intro j oj d hoj hj hd
    by_cases e : j = i
    · subst e
      rw [hi] at hoj
      injection hoj with hoj
      subst hoj
      rw [put_at hd (hdsz d hd), hE.dst j o d hin hi hd]
    · have hj' : listed.getD j false = true := by rw [← hset j e]; exact hj
      have hne : o.dst ≠ some d := by
        have := hothers j (Array.getElem?_eq_some_iff.1 hoj).1
        simp only [hoj, hd, Bool.and_eq_true, Bool.or_eq_true, beq_iff_eq, bne_iff_ne, ne_eq] at this
        exact this.2.resolve_left e
      rw [put_off hne]
      exact h.here j oj d hoj hj' hd
  · intro d hall
    have hne : o.dst ≠ some d := hall i o hi hthis
    rw [put_off hne]
    refine h.rest d fun j oj hoj hj => ?_
    by_cases e : j = i
    · subst e; rw [hnow] at hj; cases hj
    · exact hall j oj hoj (by rw [hset j e]; exact hj)
  · rw [put_size, h.sz]
  · rw [put_defers, h.df]

/-- Whatever comes up next. -/
theorem any_of_standsT (hplan : planB ops calls lo a₀.tmps.size = true) (htail : tailB ops n calls = true) (hE : EndsAt ops n vs A a₀) (hob : ∀ i o, i < n → ops[i]? = some o → Ob P W ops A vs calls lo i o)
    (hQ : ∀ w, W calls.length w → wpAny P .any ops Q (ops.size - n) (Array.replicate n true ++ Array.replicate (ops.size - n) false) A w) :
    ∀ (fuel : Nat) (listed : Array Bool) (p : Nat) (a : Act) (w : World), listed.toList.count false = fuel → HeadInv .any ops n listed → Stands ops W A a₀ calls lo listed p a w → wpAny P .any ops Q fuel listed a w := by
  have hplan' := hplan
  simp only [planB, Bool.and_eq_true, List.all_eq_true, List.mem_range] at hplan'
  obtain ⟨⟨hsel, hops⟩, hcalls⟩ := hplan'
  simp only [tailB, Bool.and_eq_true, decide_eq_true_eq] at htail
  obtain ⟨⟨⟨⟨hn, hsink⟩, hchain⟩, _⟩, hcn⟩ := htail
  -- the head is over
  have hover : ∀ (fuel : Nat) (listed : Array Bool) (p : Nat) (a : Act) (w : World), listed.toList.count false = fuel → HeadInv .any ops n listed → Stands ops W A a₀ calls lo listed p a w → (∀ i, i < n → listed.getD i false = true) → wpAny P .any ops Q fuel listed a w := by
    intro fuel listed p a w hc hi h hall
    have hl : listed = Array.replicate n true ++ Array.replicate (ops.size - n) false := by
      apply Array.ext
      · rw [hi.size]; simp; omega
      · intro i h1 h2
        by_cases hin : i < n
        · have := hall i hin
          rw [Array.getElem_append_left (by simpa using hin)]
          simpa [h1] using this
        · have := hi.tail i (by omega) (by rw [← hi.size]; exact h1)
          rw [Array.getElem_append_right (by simp; omega)]
          simpa [h1] using this
    have hf : fuel = ops.size - n := by
      rw [← hc, hl]
      simp [Array.toList_replicate, List.count_replicate]
    have ha : a = A := by
      have ht : a.tmps = A.tmps := by
        apply Array.ext_getElem?
        intro d
        by_cases hd : ∃ (j : Nat) (o : Oper), j < n ∧ ops[j]? = some o ∧ o.dst = some d
        · obtain ⟨j, o, hjn, ho, hd⟩ := hd
          exact h.here j o d ho (hall j hjn) hd
        · have hd' : ∀ (j : Nat) (o : Oper), j < n → ops[j]? = some o → o.dst ≠ some d := fun j o hj ho e => hd ⟨j, o, hj, ho, e⟩
          rw [h.rest d (fun j o ho hj => hd' j o (by
            rcases Nat.lt_or_ge j n with h' | h'
            · exact h'
            · have := getD_both (hi.tail j h' (Array.getElem?_eq_some_iff.1 ho).1)
              rw [this] at hj; cases hj) ho), hE.rest d hd']
      have hf : a.defers = A.defers := by rw [h.df, hE.df]
      cases a
      cases A
      simp only at ht hf
      rw [ht, hf]
    have hp : p = calls.length := by
      rcases Nat.lt_or_ge p calls.length with hlt | hge
      · have hc := List.getElem?_eq_getElem hlt
        have h2 := List.all_eq_true.1 hcn _ (List.getElem_mem hlt)
        have := (h.cs p _ hc).1 (hall _ (by simpa using h2))
        omega
      · have := h.le; omega
    subst ha hp hf
    rw [hl]
    exact hQ w h.world
  intro fuel
  induction fuel with
  | zero =>
    intro listed p a w hc hi h
    refine hover 0 listed p a w hc hi h fun i hin => ?_
    have hsz : i < listed.size := by rw [hi.size]; omega
    cases hb : listed.getD i false with
    | true => rfl
    | false =>
      have := unlisted_set (getD_in hsz hb)
      omega
  | succ fuel ih =>
    intro listed p a w hc hi h
    by_cases hall : ∀ i, i < n → listed.getD i false = true
    · exact hover _ listed p a w hc hi h hall
    · have hx : ∃ i, i < n ∧ listed.getD i false = false := by
        apply Classical.byContradiction
        intro hno
        exact hall fun i hin => by
          cases hb : listed.getD i false with
          | true => rfl
          | false => exact absurd ⟨i, hin, hb⟩ hno
      obtain ⟨i₀, hi₀, hb₀⟩ := hx
      have hsz₀ : i₀ < listed.size := by rw [hi.size]; omega
      have hnot := tail_waits hsink hchain hn hi _ i₀ rfl hi₀ (getD_in hsz₀ hb₀)
      -- something is ready: the least that is not there
      have hsome : ∃ i, i ∈ Region.ready .any ops listed := by
        apply Classical.byContradiction
        intro hno
        have hr : Region.ready .any ops listed = [] := List.eq_nil_iff_forall_not_mem.2 fun i hi => hno ⟨i, hi⟩
        have : ∀ i, i < ops.size → listed.getD i false = true := by
          intro i
          induction i using Nat.strongRecOn with
          | ind i ih2 =>
            intro hil
            have hsz : i < listed.size := by rw [hi.size]; exact hil
            cases hb : listed.getD i false with
            | true => rfl
            | false =>
              have hm : i ∈ Region.ready .any ops listed := by
                rw [mem_ready]
                refine ⟨by simpa [hsz] using hb, ops[i], Array.getElem?_eq_getElem hil, fun e he hbd => ?_⟩
                have hoi := hops i hil
                simp only [Array.getElem?_eq_getElem hil, Bool.and_eq_true, List.all_eq_true] at hoi
                have hel : e.on < i := by
                  have := hoi.1.1.1 e.on (List.mem_map.2 ⟨e, List.mem_filter.2 ⟨by simpa using he, hbd⟩, rfl⟩)
                  simpa using this
                exact ih2 e.on hel (by omega)
              rw [hr] at hm
              cases hm
        rw [this i₀ (by omega)] at hb₀
        cases hb₀
      refine ⟨fun hr => ?_, fun i hir => ?_⟩
      · obtain ⟨i, hm⟩ := hsome
        rw [hr] at hm; cases hm
      have hin : i < n := by
        rcases Nat.lt_or_ge i n with h' | h'
        · exact h'
        · exact absurd hir (hnot i h')
      obtain ⟨hun, o, ho, hall⟩ := mem_ready.1 hir
      have hi' : i < ops.size := (Array.getElem?_eq_some_iff.1 ho).1
      have hcnt := unlisted_set hun
      have hoi := hops i hi'
      simp only [ho, Bool.and_eq_true, List.all_eq_true, List.mem_range] at hoi
      obtain ⟨⟨⟨hord, hdst⟩, hothers⟩, hlow⟩ := hoi
      have hwaits : ∀ e, e ∈ waits o → listed.getD e false = true := fun e he => by
        obtain ⟨x, hx, rfl⟩ := List.mem_map.1 he
        obtain ⟨hx1, hx2⟩ := List.mem_filter.1 hx
        exact hall x (by simpa using hx1) hx2
      have hlo : lo.getD i 0 ≤ p := by
        rw [Bool.or_eq_true] at hlow
        rcases hlow with h0 | h0
        · rw [beq_iff_eq] at h0; omega
        · obtain ⟨e, he, hle⟩ := List.any_eq_true.1 h0
          have := h.since e (hwaits e he)
          simp only [decide_eq_true_eq] at hle
          omega
      have hlooks : ∀ d, d ∈ o.looksAt ops → a.tmps[d]? = A.tmps[d]? := fun d hd => by
        by_cases hx : ∃ (j : Nat) (oj : Oper), ops[j]? = some oj ∧ oj.dst = some d
        · obtain ⟨j, oj, hoj, hjd⟩ := hx
          have := hothers j (Array.getElem?_eq_some_iff.1 hoj).1
          simp only [hoj, hjd, Bool.and_eq_true, Bool.or_eq_true, Bool.not_eq_true'] at this
          have hin2 : (waits o).contains j = true := this.1.resolve_left (by simp [hd])
          exact h.here j oj d hoj (hwaits j (by simpa using hin2)) hjd
        · have hx' : ∀ (j : Nat) (oj : Oper), ops[j]? = some oj → oj.dst ≠ some d := fun j oj hoj e => hx ⟨j, oj, hoj, e⟩
          rw [h.rest d (fun j oj hoj _ => hx' j oj hoj), hE.rest d (fun j oj _ hoj => hx' j oj hoj)]
      have hwant := wanted_same (o := o) (ops := ops) hlooks
      have hexec : execOp a.eval o = execOp A.eval o := execOp_congr o (fun cs b => Region.noSelect_spec hsel i o cs b ho) (fun x hx => eval_same hlooks x hx)
      have hOb := hob i o hin ho
      have go : ∀ p' w', ((calls.idxOf? i = some p ∧ p' = p + 1) ∨ (calls.idxOf? i = none ∧ p' = p)) → W p' w' → wpAny P .any ops Q fuel (listed.setIfInBounds i true) (a.put o.dst (vs i)) w' := fun p' w' hp hw =>
        ih _ p' _ w' (by omega) (hi.set hir hin) (h.stepT hplan hE hin ho hun hp hlo hw)
      unfold wpOp
      simp only [ho]
      rw [hwant]
      unfold Ob at hOb
      by_cases hw : Region.wanted o (yielded ops A.tmps) = true
      · rw [if_pos hw] at hOb ⊢
        refine Or.inl ?_
        unfold Oper.wp
        rw [hexec]
        cases hcall : calls.idxOf? i with
        | some q =>
          rw [hcall] at hOb
          have hqp : q = p := by
            have hcq : calls[q]? = some i := by
              obtain ⟨hql, hqe, _⟩ := List.idxOf?_eq_some_iff.1 hcall
              rw [List.getElem?_eq_getElem hql]
              simp_all
            have h1 := h.cs q i hcq
            have h2 : ¬ q < p := fun hlt => by
              have := h1.2 hlt
              rw [getD_false_of hun] at this
              cases this
            have h3 := hcalls q (List.getElem?_eq_some_iff.1 hcq).1
            simp only [hcq, Bool.and_eq_true, decide_eq_true_eq] at h3
            omega
          subst hqp
          rcases hOb w h.world with ⟨f, args, hrun, hcs⟩ | ⟨w', hrun, hw'⟩ | ⟨hd, w', hrun, hw'⟩
          · rw [hrun]
            simp only [Oper.upon]
            refine hcs.mono ?_
            rintro e w' ⟨rfl, hw'⟩
            exact go (q + 1) w' (Or.inl ⟨hcall, rfl⟩) hw'
          · rw [hrun]
            simp only [Oper.upon]
            exact go (q + 1) w' (Or.inl ⟨hcall, rfl⟩) hw'
          · rw [hrun]
            simp only [Oper.upon]
            have hg := go (q + 1) w' (Or.inl ⟨hcall, rfl⟩) hw'
            rw [hd] at hg ⊢
            exact hg
        | none =>
          rw [hcall] at hOb
          rw [hOb p w hlo h.le h.world]
          simp only [Oper.upon]
          exact go p w (Or.inr ⟨hcall, rfl⟩) h.world
      · rw [if_neg hw] at hOb ⊢
        obtain ⟨hv, hnn⟩ := hOb
        have := go p w (Or.inr ⟨hnn, rfl⟩) h.world
        rwa [hv] at this

theorem laid_endsT {l t : List Oper} (hplan : planB (l ++ t).toArray calls lo a₀.tmps.size = true) : EndsAt (l ++ t).toArray l.length vs (laid a₀ 0 l vs) a₀ := by
  simp only [planB, Bool.and_eq_true, List.all_eq_true, List.mem_range] at hplan
  obtain ⟨⟨_, hops⟩, _⟩ := hplan
  refine ⟨fun j o d hjn ho hd => ?_, fun d h => ?_, laid_size vs l a₀ 0, laid_defers vs l a₀ 0⟩
  · have hj := (Array.getElem?_eq_some_iff.1 ho).1
    have h1 := hops j hj
    simp only [ho, Bool.and_eq_true, List.all_eq_true, List.mem_range] at h1
    obtain ⟨⟨⟨_, hdst⟩, hothers⟩, _⟩ := h1
    rw [hd] at hdst
    have hol : l[j]? = some o := by
      have : (l ++ t)[j]? = some o := by simpa using ho
      rwa [List.getElem?_append_left hjn] at this
    have := laid_at vs d l a₀ 0 j o hol hd (by simpa using hdst) (fun k x hx hk e => by
      have hkl := (List.getElem?_eq_some_iff.1 hx).1
      have hx' : (l ++ t).toArray[k]? = some x := by
        rw [List.getElem?_toArray, List.getElem?_append_left hkl]; exact hx
      have h2 := hothers k (by simp; omega)
      simp only [hx', e, Bool.and_eq_true, Bool.or_eq_true, beq_iff_eq, bne_iff_ne, ne_eq] at h2
      exact (h2.2.resolve_left hk) hd)
    rwa [Nat.zero_add] at this
  · refine laid_rest vs d l a₀ 0 fun o ho => ?_
    obtain ⟨j, hj⟩ := List.getElem?_of_mem ho
    have hjl := (List.getElem?_eq_some_iff.1 hj).1
    exact h j o hjl (by rw [List.getElem?_toArray, List.getElem?_append_left hjl]; exact hj)

/-- The obligations of the head, at a frame of which no more is known than what lies in it. -/
theorem Obs_of_endsT {l t : List Oper} (hplan : planB (l ++ t).toArray calls lo a₀.tmps.size = true) (h : ∀ A, EndsAt (l ++ t).toArray l.length vs A a₀ → Obs P W (l ++ t).toArray A vs calls lo 0 l) : Obs P W (l ++ t).toArray (laid a₀ 0 l vs) vs calls lo 0 l :=
  h _ (laid_endsT hplan)

/-- A region that draws its order: its head l by its plan, its tail t in order. -/
theorem wp_region_tail {id : Nat} (l t : List Oper) {w : World} (vs : Nat → Value) (calls lo : List Nat) (W : Nat → World → Prop) (hm : P.follows .mixedOrders = true) (hplan : planB (l ++ t).toArray calls lo a₀.tmps.size = true) (htail : tailB (l ++ t).toArray l.length calls = true) (hw : W 0 { w with drawn := w.drawn + 1 })
    (hob : Obs P W (l ++ t).toArray (laid a₀ 0 l vs) vs calls lo 0 l) (hQ : ∀ w, W calls.length w → wpList P (l ++ t).toArray Q t (laid a₀ 0 l vs) w) : (Code.region id (l ++ t).toArray true).wp P Q a₀ w := by
  have htail' := htail
  simp only [tailB, Bool.and_eq_true, decide_eq_true_eq] at htail'
  obtain ⟨⟨⟨⟨hn, _⟩, _⟩, hseq⟩, hcn⟩ := htail'
  have hsz : (l ++ t).toArray.size - l.length = t.length := by simp
  refine wp_region_any hm (any_of_standsT (vs := vs) hplan htail (laid_endsT hplan) (fun i o hin ho => ?_) (fun w' hw' => ?_) _ _ 0 a₀ _ ?_ ⟨by simp, ?_, ?_⟩ ⟨by simp, ?_, ?_, Nat.zero_le _, ?_, ?_, rfl, rfl, hw⟩)
  · have hol : l[i]? = some o := by
      have : (l ++ t)[i]? = some o := by simpa using ho
      rwa [List.getElem?_append_left hin] at this
    have := obs_at l 0 hob i o hol
    rwa [Nat.zero_add] at this
  · rw [hsz]
    refine wpAny_of_seq t l.length _ _ _ (fun j => ?_) ?_ (hQ w' hw')
    · rw [List.getElem?_toArray, List.getElem?_append_right (by omega), Nat.add_sub_cancel_left]
    · rw [hsz] at hseq
      exact hseq
  · simp [Array.toList_replicate]
  · intro j oj _ hl
    have := none_yet (l ++ t).toArray.size j
    rw [this] at hl
    cases hl
  · intro j h1 h2
    rw [Array.getD_eq_getD_getElem?, Array.getElem?_replicate, if_pos h2]
    rfl
  · intro q c _
    have := none_yet (l ++ t).toArray.size c
    rw [this]
    simp
  · intro j hj
    have := none_yet (l ++ t).toArray.size j
    rw [this] at hj
    cases hj
  · intro j o d _ hj _
    have := none_yet (l ++ t).toArray.size j
    rw [this] at hj
    cases hj
  · intro d _
    rfl

theorem want_isT (hE : EndsAt ops n vs A a₀) {o og : Oper} {g d : Nat} {b x : Bool} (hn : g < n) (hg : o.guard = some (g, b)) (ho : ops[g]? = some og) (hd : og.dst = some d) (hv : vs g = .bool x) : Region.wanted o (yielded ops A.tmps) = (x == b) := by
  have h1 := hE.dst g og d hn ho hd
  simp [Region.wanted, hg, yielded, ho, hd, h1, hv]
theorem want_undefT (hE : EndsAt ops n vs A a₀) {o og : Oper} {g d : Nat} {b : Bool} (hn : g < n) (hg : o.guard = some (g, b)) (ho : ops[g]? = some og) (hd : og.dst = some d) (hv : vs g = undef) : Region.wanted o (yielded ops A.tmps) = false := by
  have h1 := hE.dst g og d hn ho hd
  simp [Region.wanted, hg, yielded, ho, hd, h1, hv, undef]
theorem eval_dstT (hE : EndsAt ops n vs A a₀) {j d : Nat} {o : Oper} (hn : j < n) (ho : ops[j]? = some o) (hd : o.dst = some d) : A.eval (.tmp d) = vs j := by
  simp [Act.eval, hE.dst j o d hn ho hd]
theorem at_outT (hE : EndsAt ops n vs A a₀) {d : Nat} (h : (ops.all fun o => o.dst != some d) = true) : A.tmps[d]? = a₀.tmps[d]? :=
  hE.rest d (fun j o _ ho e => by
    have := Array.all_eq_true_iff_forall_mem.1 h o (Array.mem_of_getElem? ho)
    simp [e] at this)
theorem eval_outT (hE : EndsAt ops n vs A a₀) {d : Nat} (h : (ops.all fun o => o.dst != some d) = true) : A.eval (.tmp d) = a₀.eval (.tmp d) := by
  simp [Act.eval, at_outT hE h]

end
end Go.Proofs.Ytkmlnglmecjmeaa


/- A region that draws its order, whose calls answer what is not known ahead: as Phase, but that what each operation leaves is told by what the calls answered (r 0, r 1, ..). Of no program. Conditions: as the theorem names them. -/
namespace Go.Proofs.Ytkmlnglmecjmeaa
open Go

section
variable {P : Program} {ops : Array Oper} {Q : Exit → Act → World → Prop} {W : (Nat → Value) → Nat → World → Prop} {a₀ : Act} {A : (Nat → Value) → Act} {vs : (Nat → Value) → Nat → Value} {calls lo : List Nat}

/-- What is asked of operation o, number i, the calls having answered r, the frame being read as it is at the end then. -/
def ObR (P : Program) (W : (Nat → Value) → Nat → World → Prop) (ops : Array Oper) (A : Act) (vs : (Nat → Value) → Nat → Value) (calls lo : List Nat) (r : Nat → Value) (i : Nat) (o : Oper) : Prop :=
  if Region.wanted o (yielded ops A.tmps) = true then
    match calls.idxOf? i with
    | some q => ∀ w, W r q w → (∃ f args, (execOp A.eval o).run P w = .ok (.enter f args) w ∧ Calls P f args w (fun e w' => ∃ v, e = .returned v ∧ ∀ r', (∀ j, j < q → r' j = r j) → r' q = v → vs r' i = v ∧ W r' (q + 1) w'))
        ∨ (∃ v w', (execOp A.eval o).run P w = .ok (.value v) w' ∧ ∀ r', (∀ j, j < q → r' j = r j) → r' q = v → vs r' i = v ∧ W r' (q + 1) w')
        ∨ (o.dst = none ∧ ∃ w', (execOp A.eval o).run P w = .ok .skip w' ∧ ∀ r', (∀ j, j < q → r' j = r j) → r' q = undef → vs r' i = undef ∧ W r' (q + 1) w')
    | none => ∀ p w, lo.getD i 0 ≤ p → p ≤ calls.length → W r p w → (execOp A.eval o).run P w = .ok (.value (vs r i)) w
  else vs r i = undef ∧ calls.idxOf? i = none

/-- Whatever comes up next. -/
theorem any_of_standsR (hplan : planB ops calls lo a₀.tmps.size = true) (hE : ∀ r, EndsAs ops (vs r) (A r) a₀) (hob : ∀ r i o, ops[i]? = some o → ObR P W ops (A r) vs calls lo r i o)
    (hQ : ∀ r w, W r calls.length w → Q .normal (A r) w) :
    ∀ (fuel : Nat) (listed : Array Bool) (p : Nat) (r0 : Nat → Value) (a : Act) (w : World), listed.toList.count false ≤ fuel → (∀ r, (∀ j, j < p → r j = r0 j) → Stands ops (W r) (A r) a₀ calls lo listed p a w) → wpAny P .any ops Q fuel listed a w := by
  have hplan' := hplan
  simp only [planB, Bool.and_eq_true, List.all_eq_true, List.mem_range] at hplan'
  obtain ⟨⟨hsel, hops⟩, hcalls⟩ := hplan'
  -- all that is not there waits for nothing that is not there
  have hready : ∀ (r : Nat → Value) (listed : Array Bool) (p : Nat) (a : Act) (w : World), Stands ops (W r) (A r) a₀ calls lo listed p a w → Region.ready .any ops listed = [] → ∀ i, i < ops.size → listed.getD i false = true := by
    intro r listed p a w h hr i
    induction i using Nat.strongRecOn with
    | ind i ih =>
      intro hi
      have hsz : i < listed.size := by rw [h.size]; exact hi
      cases hb : listed.getD i false with
      | true => rfl
      | false =>
        have hm : i ∈ Region.ready .any ops listed := by
          rw [mem_ready]
          refine ⟨by simpa [hsz] using hb, ops[i], Array.getElem?_eq_getElem hi, fun e he hbd => ?_⟩
          have hoi := hops i hi
          simp only [Array.getElem?_eq_getElem hi, Bool.and_eq_true, List.all_eq_true] at hoi
          have hel : e.on < i := by
            have := hoi.1.1.1 e.on (List.mem_map.2 ⟨e, List.mem_filter.2 ⟨by simpa using he, hbd⟩, rfl⟩)
            simpa using this
          exact ih e.on hel (by omega)
        rw [hr] at hm
        cases hm
  have hend : ∀ (r : Nat → Value) (listed : Array Bool) (p : Nat) (a : Act) (w : World), Stands ops (W r) (A r) a₀ calls lo listed p a w → Region.ready .any ops listed = [] → Q .normal a w := by
    intro r listed p a w h hr
    have hall := hready r listed p a w h hr
    have ha : a = A r := by
      have ht : a.tmps = (A r).tmps := by
        apply Array.ext_getElem?
        intro d
        by_cases hd : ∃ (j : Nat) (o : Oper), ops[j]? = some o ∧ o.dst = some d
        · obtain ⟨j, o, ho, hd⟩ := hd
          exact h.here j o d ho (hall j (Array.getElem?_eq_some_iff.1 ho).1) hd
        · have hd' : ∀ (j : Nat) (o : Oper), ops[j]? = some o → o.dst ≠ some d := fun j o ho e => hd ⟨j, o, ho, e⟩
          rw [h.rest d (fun j o ho _ => hd' j o ho), (hE r).rest d hd']
      have hf : a.defers = (A r).defers := by rw [h.df, (hE r).df]
      generalize A r = Ar at *
      cases a
      cases Ar
      simp only at ht hf
      rw [ht, hf]
    have hp : p = calls.length := by
      rcases Nat.lt_or_ge p calls.length with hlt | hge
      · have hc := List.getElem?_eq_getElem hlt
        have h1 := hcalls p hlt
        simp only [hc, Bool.and_eq_true, decide_eq_true_eq] at h1
        have := (h.cs p _ hc).1 (hall _ h1.1.1)
        omega
      · have := h.le; omega
    subst hp
    rw [ha]
    exact hQ r w h.world
  intro fuel
  induction fuel with
  | zero =>
    intro listed p r0 a w hc hh
    have h := hh r0 (fun _ _ => rfl)
    have hr : Region.ready .any ops listed = [] := by
      apply List.eq_nil_iff_forall_not_mem.2
      intro i hi
      have := unlisted_set (mem_ready.1 hi).1
      omega
    exact ⟨hr, hend r0 listed p a w h hr⟩
  | succ fuel ih =>
    intro listed p r0 a w hc hh
    have h := hh r0 (fun _ _ => rfl)
    refine ⟨hend r0 listed p a w h, fun i hi => ?_⟩
    obtain ⟨hun, o, ho, hall⟩ := mem_ready.1 hi
    have hi' : i < ops.size := (Array.getElem?_eq_some_iff.1 ho).1
    have hcnt := unlisted_set hun
    have hoi := hops i hi'
    simp only [ho, Bool.and_eq_true, List.all_eq_true, List.mem_range] at hoi
    obtain ⟨⟨⟨hord, hdst⟩, hothers⟩, hlow⟩ := hoi
    have hwaits : ∀ e, e ∈ waits o → listed.getD e false = true := fun e he => by
      obtain ⟨x, hx, rfl⟩ := List.mem_map.1 he
      obtain ⟨hx1, hx2⟩ := List.mem_filter.1 hx
      exact hall x (by simpa using hx1) hx2
    have hlo : lo.getD i 0 ≤ p := by
      rw [Bool.or_eq_true] at hlow
      rcases hlow with h0 | h0
      · rw [beq_iff_eq] at h0; omega
      · obtain ⟨e, he, hle⟩ := List.any_eq_true.1 h0
        have := h.since e (hwaits e he)
        simp only [decide_eq_true_eq] at hle
        omega
    have hlooks : ∀ r, (∀ j, j < p → r j = r0 j) → ∀ d, d ∈ o.looksAt ops → a.tmps[d]? = (A r).tmps[d]? := fun r hr d hd => by
      have h := hh r hr
      by_cases hx : ∃ (j : Nat) (oj : Oper), ops[j]? = some oj ∧ oj.dst = some d
      · obtain ⟨j, oj, hoj, hjd⟩ := hx
        have := hothers j (Array.getElem?_eq_some_iff.1 hoj).1
        simp only [hoj, hjd, Bool.and_eq_true, Bool.or_eq_true, Bool.not_eq_true'] at this
        have hin : (waits o).contains j = true := this.1.resolve_left (by simp [hd])
        exact h.here j oj d hoj (hwaits j (by simpa using hin)) hjd
      · have hx' : ∀ (j : Nat) (oj : Oper), ops[j]? = some oj → oj.dst ≠ some d := fun j oj hoj e => hx ⟨j, oj, hoj, e⟩
        rw [h.rest d (fun j oj hoj _ => hx' j oj hoj), (hE r).rest d hx']
    have hwant := fun r hr => wanted_same (o := o) (ops := ops) (hlooks r hr)
    have hexec : ∀ r, (∀ j, j < p → r j = r0 j) → execOp a.eval o = execOp (A r).eval o := fun r hr => execOp_congr o (fun cs b => Region.noSelect_spec hsel i o cs b ho) (fun x hx => eval_same (hlooks r hr) x hx)
    have hOb := hob r0 i o ho
    have r00 : ∀ j, j < p → r0 j = r0 j := fun _ _ => rfl
    unfold wpOp
    simp only [ho]
    unfold ObR at hOb
    by_cases hw : Region.wanted o (yielded ops a.tmps) = true
    · rw [← hwant r0 r00, if_pos hw] at hOb
      rw [if_pos hw]
      refine Or.inl ?_
      unfold Oper.wp
      cases hcall : calls.idxOf? i with
      | some q =>
        rw [hcall] at hOb
        have hqp : q = p := by
          have hcq : calls[q]? = some i := by
            obtain ⟨hql, hqe, _⟩ := List.idxOf?_eq_some_iff.1 hcall
            rw [List.getElem?_eq_getElem hql]
            simp_all
          have h1 := h.cs q i hcq
          have h2 : ¬ q < p := fun hlt => by
            have := h1.2 hlt
            rw [getD_false_of hun] at this
            cases this
          have h3 := hcalls q (List.getElem?_eq_some_iff.1 hcq).1
          simp only [hcq, Bool.and_eq_true, decide_eq_true_eq] at h3
          omega
        subst hqp
        have go : ∀ (v : Value) (w' : World), (∀ r', (∀ j, j < q → r' j = r0 j) → r' q = v → vs r' i = v ∧ W r' (q + 1) w') → wpAny P .any ops Q fuel (listed.setIfInBounds i true) (a.put o.dst v) w' := fun v w' hT => by
          refine ih _ (q + 1) (fun j => if j = q then v else r0 j) _ w' (by omega) fun r hr => ?_
          have hr1 : ∀ j, j < q → r j = r0 j := fun j hj => by
            have := hr j (by omega)
            rwa [if_neg (by omega)] at this
          have hr2 : r q = v := by
            have := hr q (by omega)
            rwa [if_pos rfl] at this
          obtain ⟨e, hW⟩ := hT r hr1 hr2
          have := (hh r hr1).step hplan (hE r) ho hun (Or.inl ⟨hcall, rfl⟩) hlo hW
          rwa [e] at this
        rw [hexec r0 r00]
        rcases hOb w h.world with ⟨f, args, hrun, hcs⟩ | ⟨v, w', hrun, hT⟩ | ⟨hd, w', hrun, hT⟩
        · rw [hrun]
          simp only [Oper.upon]
          refine hcs.mono ?_
          rintro e w' ⟨v, rfl, hT⟩
          exact go v w' hT
        · rw [hrun]
          simp only [Oper.upon]
          exact go v w' hT
        · rw [hrun]
          simp only [Oper.upon]
          have hg := go undef w' hT
          rw [hd] at hg ⊢
          exact hg
      | none =>
        rw [hcall] at hOb
        have hrun0 := hOb p w hlo h.le h.world
        rw [hexec r0 r00, hrun0]
        simp only [Oper.upon]
        refine ih _ p r0 _ w (by omega) fun r hr => ?_
        have hO2 := hob r i o ho
        unfold ObR at hO2
        rw [← hwant r hr, if_pos hw, hcall] at hO2
        have hrun1 := hO2 p w hlo (hh r hr).le (hh r hr).world
        rw [← hexec r hr, hexec r0 r00, hrun0] at hrun1
        have e : vs r0 i = vs r i := by
          simp only [Result.ok.injEq, Next.value.injEq, and_true] at hrun1
          exact hrun1
        rw [e]
        exact (hh r hr).step hplan (hE r) ho hun (Or.inr ⟨hcall, rfl⟩) hlo (hh r hr).world
    · rw [← hwant r0 r00, if_neg hw] at hOb
      rw [if_neg hw]
      obtain ⟨hv, hn⟩ := hOb
      refine ih _ p r0 _ w (by omega) fun r hr => ?_
      have hO2 := hob r i o ho
      unfold ObR at hO2
      rw [← hwant r hr, if_neg hw] at hO2
      have := (hh r hr).step hplan (hE r) ho hun (Or.inr ⟨hn, rfl⟩) hlo (hh r hr).world
      rwa [hO2.1] at this

section
variable {A : Act} {r : Nat → Value}
theorem obR_val {i : Nat} {o : Oper} (hw : Region.wanted o (yielded ops A.tmps) = true) (hc : calls.idxOf? i = none) (h : ∀ p w, lo.getD i 0 ≤ p → p ≤ calls.length → W r p w → (execOp A.eval o).run P w = .ok (.value (vs r i)) w) : ObR P W ops A vs calls lo r i o := by
  unfold ObR
  rw [if_pos hw, hc]
  exact h
theorem obR_move {i : Nat} {o : Oper} (x : Operand) (hx : o.op = .move x) (hw : Region.wanted o (yielded ops A.tmps) = true) (hc : calls.idxOf? i = none) (h : A.eval x = vs r i) : ObR P W ops A vs calls lo r i o :=
  obR_val hw hc fun _ w _ _ _ => by
    unfold execOp
    rw [hx, ← h]
    rfl
theorem obR_skip {i : Nat} {o : Oper} (hw : Region.wanted o (yielded ops A.tmps) = false) (hc : calls.idxOf? i = none) (hv : vs r i = undef) : ObR P W ops A vs calls lo r i o := by
  unfold ObR
  rw [if_neg (by rw [hw]; exact Bool.false_ne_true)]
  exact ⟨hv, hc⟩
theorem obR_call {i q f : Nat} {o : Oper} {args : Array Value} (hw : Region.wanted o (yielded ops A.tmps) = true) (hc : calls.idxOf? i = some q) (hr : ∀ w, (execOp A.eval o).run P w = .ok (.enter f args) w)
    (h : ∀ w, W r q w → Calls P f args w (fun e w' => ∃ v, e = .returned v ∧ ∀ r', (∀ j, j < q → r' j = r j) → r' q = v → vs r' i = v ∧ W r' (q + 1) w')) : ObR P W ops A vs calls lo r i o := by
  unfold ObR
  rw [if_pos hw, hc]
  exact fun w hw => Or.inl ⟨f, args, hr w, h w hw⟩
theorem obR_make {i q : Nat} {o : Oper} (hw : Region.wanted o (yielded ops A.tmps) = true) (hc : calls.idxOf? i = some q) (h : ∀ w, W r q w → ∃ v w', (execOp A.eval o).run P w = .ok (.value v) w' ∧ ∀ r', (∀ j, j < q → r' j = r j) → r' q = v → vs r' i = v ∧ W r' (q + 1) w') : ObR P W ops A vs calls lo r i o := by
  unfold ObR
  rw [if_pos hw, hc]
  exact fun w hw => Or.inr (Or.inl (h w hw))
theorem obR_store {i q : Nat} {o : Oper} (hd : o.dst = none) (hw : Region.wanted o (yielded ops A.tmps) = true) (hc : calls.idxOf? i = some q) (h : ∀ w, W r q w → ∃ w', (execOp A.eval o).run P w = .ok .skip w' ∧ ∀ r', (∀ j, j < q → r' j = r j) → r' q = undef → vs r' i = undef ∧ W r' (q + 1) w') : ObR P W ops A vs calls lo r i o := by
  unfold ObR
  rw [if_pos hw, hc]
  exact fun w hw => Or.inr (Or.inr ⟨hd, h w hw⟩)
end

/-- The obligations, one behind the other. -/
def ObsR (P : Program) (W : (Nat → Value) → Nat → World → Prop) (ops : Array Oper) (A : Act) (vs : (Nat → Value) → Nat → Value) (calls lo : List Nat) (r : Nat → Value) : Nat → List Oper → Prop
  | _, [] => True
  | i, o :: rest => ObR P W ops A vs calls lo r i o ∧ ObsR P W ops A vs calls lo r (i + 1) rest
theorem obsR_at {A : Act} {r : Nat → Value} : ∀ (l : List Oper) (k : Nat), ObsR P W ops A vs calls lo r k l → ∀ i o, l[i]? = some o → ObR P W ops A vs calls lo r (k + i) o
  | [], _, _, i, o, h => by simp at h
  | x :: l, k, h, 0, o, e => by
    simp only [List.getElem?_cons_zero, Option.some.injEq] at e
    subst e
    exact h.1
  | x :: l, k, h, i + 1, o, e => by
    have := obsR_at l (k + 1) h.2 i o (by simpa using e)
    rwa [show k + 1 + i = k + (i + 1) from by omega] at this
theorem ObsR_of_ends {l : List Oper} (hplan : planB l.toArray calls lo a₀.tmps.size = true) (h : ∀ r A, EndsAs l.toArray (vs r) A a₀ → ObsR P W l.toArray A vs calls lo r 0 l) : ∀ r, ObsR P W l.toArray (laid a₀ 0 l (vs r)) vs calls lo r 0 l :=
  fun r => h r _ (laid_ends hplan)

/-- A region that draws its order, by its plan: W r 0 behind the draw, W r q behind q calls that answered r 0, r 1, ..; what each operation leaves is told by these. -/
theorem wp_region_results {id : Nat} {l : List Oper} {w : World} (vs : (Nat → Value) → Nat → Value) (calls lo : List Nat) (W : (Nat → Value) → Nat → World → Prop) (hm : P.follows .mixedOrders = true) (hplan : planB l.toArray calls lo a₀.tmps.size = true) (hw : ∀ r, W r 0 { w with drawn := w.drawn + 1 })
    (hob : ∀ r, ObsR P W l.toArray (laid a₀ 0 l (vs r)) vs calls lo r 0 l) (hQ : ∀ r w, W r calls.length w → Q .normal (laid a₀ 0 l (vs r)) w) : (Code.region id l.toArray true).wp P Q a₀ w := by
  refine wp_region_any hm (any_of_standsR (A := fun r => laid a₀ 0 l (vs r)) hplan (fun r => laid_ends hplan) (fun r i o ho => ?_) hQ _ _ 0 (fun _ => undef) a₀ _ ?_ (fun r _ => ⟨by simp, ?_, ?_, Nat.zero_le _, ?_, ?_, rfl, rfl, hw r⟩))
  · have := obsR_at l 0 (hob r) i o (by simpa using ho)
    rwa [Nat.zero_add] at this
  · simp [Array.toList_replicate]
  · intro q c _
    have := none_yet l.toArray.size c
    rw [this]
    simp
  · intro j hj
    have := none_yet l.toArray.size j
    rw [this] at hj
    cases hj
  · intro j o d _ hj _
    have := none_yet l.toArray.size j
    rw [this] at hj
    cases hj
  · intro d _
    rfl

end
end Go.Proofs.Ytkmlnglmecjmeaa


/- A region that draws its order, some of whose operations turn the world or answer what is not known ahead, in whatever order they may come: what every operation leaves is told by what these left (r 0, r 1, ..); what the world is by which of them are over (D 0, D 1, ..). Of no program. Conditions: as the theorem names them. -/
namespace Go.Proofs.Ytkmlnglmecjmeaa
open Go

section
variable {P : Program} {ops : Array Oper} {Q : Exit → Act → World → Prop} {W : (Nat → Value) → (Nat → Bool) → World → Prop} {a₀ : Act} {vs : (Nat → Value) → Nat → Value} {calls : List Nat} {lo : List (List Nat)}

/-- Which of them are over once operation j is. -/
def overS (calls : List Nat) (lo : List (List Nat)) (j : Nat) : List Nat := match calls.idxOf? j with
  | some q => q :: lo.getD j []
  | none => lo.getD j []
/-- Which of them are over. -/
def dn (calls : List Nat) (listed : Array Bool) (q : Nat) : Bool := match calls[q]? with
  | some c => listed.getD c false
  | none => false
/-- What is asked of the operations and of the plan: by running it. -/
def planS (ops : Array Oper) (calls : List Nat) (lo : List (List Nat)) (size : Nat) : Bool :=
  Region.noSelect ops &&
  ((List.range ops.size).all fun i => match ops[i]? with
    | none => false
    | some o =>
      ((waits o).all fun e => decide (e < i)) &&
      (match o.dst with | some d => decide (d < size) | none => true) &&
      ((List.range ops.size).all fun j => match ops[j]? with
        | none => false
        | some oj => match oj.dst with
          | some d => (!(o.looksAt ops).contains d || (waits o).contains j) && (j == i || o.dst != some d)
          | none => true) &&
      ((lo.getD i []).all fun q => (waits o).any fun e => (overS calls lo e).contains q)) &&
  ((List.range calls.length).all fun q => match calls[q]? with
    | some c => decide (c < ops.size) && (calls.idxOf? c == some q)
    | none => false)

/-- What is asked of operation o, number i. -/
def ObS (P : Program) (W : (Nat → Value) → (Nat → Bool) → World → Prop) (ops : Array Oper) (A : Act) (vs : (Nat → Value) → Nat → Value) (calls : List Nat) (lo : List (List Nat)) (r : Nat → Value) (i : Nat) (o : Oper) : Prop :=
  if Region.wanted o (yielded ops A.tmps) = true then
    match calls.idxOf? i with
    | some q => ∀ D w, (∀ e, e ∈ lo.getD i [] → D e = true) → D q = false → W r D w →
        (∃ f args, (execOp A.eval o).run P w = .ok (.enter f args) w ∧ Calls P f args w (fun e w' => ∃ v, e = .returned v ∧ ∀ r', (∀ j, D j = true → r' j = r j) → r' q = v → vs r' i = v ∧ W r' (fun j => j == q || D j) w'))
        ∨ (∃ v w', (execOp A.eval o).run P w = .ok (.value v) w' ∧ ∀ r', (∀ j, D j = true → r' j = r j) → r' q = v → vs r' i = v ∧ W r' (fun j => j == q || D j) w')
        ∨ (o.dst = none ∧ ∃ w', (execOp A.eval o).run P w = .ok .skip w' ∧ ∀ r', (∀ j, D j = true → r' j = r j) → r' q = undef → vs r' i = undef ∧ W r' (fun j => j == q || D j) w')
    | none => ∀ D w, (∀ e, e ∈ lo.getD i [] → D e = true) → W r D w → (execOp A.eval o).run P w = .ok (.value (vs r i)) w
  else vs r i = undef ∧ calls.idxOf? i = none

/-- How things stand when these have come up. -/
structure StandsS (ops : Array Oper) (W : (Nat → Bool) → World → Prop) (A a₀ : Act) (calls : List Nat) (lo : List (List Nat)) (listed : Array Bool) (a : Act) (w : World) : Prop where
  size : listed.size = ops.size
  since : ∀ j, listed.getD j false = true → ∀ q, q ∈ overS calls lo j → dn calls listed q = true
  here : ∀ (j : Nat) (o : Oper) (d : Nat), ops[j]? = some o → listed.getD j false = true → o.dst = some d → a.tmps[d]? = A.tmps[d]?
  rest : ∀ d : Nat, (∀ (j : Nat) (o : Oper), ops[j]? = some o → listed.getD j false = true → o.dst ≠ some d) → a.tmps[d]? = a₀.tmps[d]?
  sz : a.tmps.size = a₀.tmps.size
  df : a.defers = a₀.defers
  world : W (dn calls listed) w

theorem idx_of {calls : List Nat} {i q : Nat} (h : calls.idxOf? i = some q) : calls[q]? = some i := by
  obtain ⟨hql, hqe, _⟩ := List.idxOf?_eq_some_iff.1 h
  rw [List.getElem?_eq_getElem hql]
  simp_all
theorem dn_mono {listed : Array Bool} {i q : Nat} (hi : i < listed.size) (h : dn calls listed q = true) : dn calls (listed.setIfInBounds i true) q = true := by
  unfold dn at h ⊢
  cases hc : calls[q]? with
  | none => rw [hc] at h; cases h
  | some c =>
    rw [hc] at h
    simp only at h ⊢
    by_cases e : c = i
    · subst e; simp [hi]
    · rw [getD_set_ne false (Ne.symm e)]; exact h
theorem dn_val {listed : Array Bool} {i : Nat} (hn : calls.idxOf? i = none) : dn calls (listed.setIfInBounds i true) = dn calls listed := by
  funext q
  unfold dn
  cases hc : calls[q]? with
  | none => rfl
  | some c =>
    simp only
    have e : c ≠ i := fun e => by
      subst e
      have := List.idxOf?_eq_none_iff.1 hn
      exact this (List.mem_of_getElem? hc)
    rw [getD_set_ne false (Ne.symm e)]
theorem dn_call {listed : Array Bool} {i q : Nat} (hidx : ∀ (q c : Nat), calls[q]? = some c → calls.idxOf? c = some q) (hi : i < listed.size) (hq : calls.idxOf? i = some q) : dn calls (listed.setIfInBounds i true) = fun j => j == q || dn calls listed j := by
  funext j
  have hcq := idx_of hq
  unfold dn
  cases hc : calls[j]? with
  | none =>
    simp only
    have : j ≠ q := fun e => by subst e; rw [hc] at hcq; cases hcq
    simp [this]
  | some c =>
    simp only
    by_cases e : c = i
    · subst e
      have h1 := hidx j c hc
      rw [hq] at h1
      injection h1 with h1
      subst h1
      simp [hi]
    · rw [getD_set_ne false (Ne.symm e)]
      have : j ≠ q := fun e2 => by subst e2; rw [hcq] at hc; injection hc with hc; exact e hc.symm
      simp [this]

/-- Behind one operation more. -/
theorem StandsS.step {W : (Nat → Bool) → World → Prop} {vs : Nat → Value} {A : Act} (hplan : planS ops calls lo a₀.tmps.size = true) (hE : EndsAs ops vs A a₀) {listed : Array Bool} {i : Nat} {a : Act} {w w' : World} {o : Oper} (h : StandsS ops W A a₀ calls lo listed a w)
    (hi : ops[i]? = some o) (hun : listed.getD i true = false) (hlo : ∀ q, q ∈ lo.getD i [] → dn calls listed q = true) (hw : W (dn calls (listed.setIfInBounds i true)) w') :
    StandsS ops W A a₀ calls lo (listed.setIfInBounds i true) (a.put o.dst (vs i)) w' := by
  simp only [planS, Bool.and_eq_true, List.all_eq_true, List.mem_range] at hplan
  obtain ⟨⟨hsel, hops⟩, hcalls⟩ := hplan
  have hlt : i < listed.size := by
    rcases Nat.lt_or_ge i listed.size with h' | h'
    · exact h'
    · simp [Array.getElem?_eq_none h'] at hun
  have hthis : (listed.setIfInBounds i true).getD i false = true := by simp [hlt]
  have hnow : listed.getD i false = false := getD_false_of hun
  have hoi := hops i (Array.getElem?_eq_some_iff.1 hi).1
  simp only [hi, Bool.and_eq_true, List.all_eq_true, List.mem_range] at hoi
  obtain ⟨⟨⟨hord, hdst⟩, hothers⟩, _⟩ := hoi
  have hdsz : ∀ d, o.dst = some d → d < a.tmps.size := fun d hd => by
    rw [hd] at hdst
    rw [h.sz]
    simpa using hdst
  have hset : ∀ j, j ≠ i → (listed.setIfInBounds i true).getD j false = listed.getD j false := fun j e => getD_set_ne false (Ne.symm e)
  refine ⟨by simp [h.size], ?_, ?_, ?_, ?_, ?_, hw⟩
  · intro j hj q hq
    rcases getD_set_false hj with rfl | hj
    · unfold overS at hq
      cases hc : calls.idxOf? j with
      | none =>
        rw [hc] at hq
        exact dn_mono hlt (hlo q hq)
      | some q0 =>
        rw [hc] at hq
        rcases List.mem_cons.1 hq with rfl | hq
        · unfold dn
          rw [idx_of hc]
          exact hthis
        · exact dn_mono hlt (hlo q hq)
    · exact dn_mono hlt (h.since j hj q hq)
  · intro j oj d hoj hj hd
    by_cases e : j = i
    · subst e
      rw [hi] at hoj
      injection hoj with hoj
      subst hoj
      rw [put_at hd (hdsz d hd), hE.dst j o d hi hd]
    · have hj' : listed.getD j false = true := by rw [← hset j e]; exact hj
      have hne : o.dst ≠ some d := by
        have := hothers j (Array.getElem?_eq_some_iff.1 hoj).1
        simp only [hoj, hd, Bool.and_eq_true, Bool.or_eq_true, beq_iff_eq, bne_iff_ne, ne_eq] at this
        exact this.2.resolve_left e
      rw [put_off hne]
      exact h.here j oj d hoj hj' hd
  · intro d hall
    have hne : o.dst ≠ some d := hall i o hi hthis
    rw [put_off hne]
    refine h.rest d fun j oj hoj hj => ?_
    by_cases e : j = i
    · subst e; rw [hnow] at hj; cases hj
    · exact hall j oj hoj (by rw [hset j e]; exact hj)
  · rw [put_size, h.sz]
  · rw [put_defers, h.df]

/-- Whatever comes up next. -/
theorem any_of_standsS {A : (Nat → Value) → Act} (hplan : planS ops calls lo a₀.tmps.size = true) (hE : ∀ r, EndsAs ops (vs r) (A r) a₀) (hob : ∀ r i o, ops[i]? = some o → ObS P W ops (A r) vs calls lo r i o)
    (hQ : ∀ r w, W r (fun q => decide (q < calls.length)) w → Q .normal (A r) w) :
    ∀ (fuel : Nat) (listed : Array Bool) (r0 : Nat → Value) (a : Act) (w : World), listed.toList.count false ≤ fuel → (∀ r, (∀ j, dn calls listed j = true → r j = r0 j) → StandsS ops (W r) (A r) a₀ calls lo listed a w) → wpAny P .any ops Q fuel listed a w := by
  have hplan' := hplan
  simp only [planS, Bool.and_eq_true, List.all_eq_true, List.mem_range] at hplan'
  obtain ⟨⟨hsel, hops⟩, hcalls⟩ := hplan'
  -- all that is not there waits for nothing that is not there
  have hready : ∀ (r : Nat → Value) (listed : Array Bool) (a : Act) (w : World), StandsS ops (W r) (A r) a₀ calls lo listed a w → Region.ready .any ops listed = [] → ∀ i, i < ops.size → listed.getD i false = true := by
    intro r listed a w h hr i
    induction i using Nat.strongRecOn with
    | ind i ih =>
      intro hi
      have hsz : i < listed.size := by rw [h.size]; exact hi
      cases hb : listed.getD i false with
      | true => rfl
      | false =>
        have hm : i ∈ Region.ready .any ops listed := by
          rw [mem_ready]
          refine ⟨by simpa [hsz] using hb, ops[i], Array.getElem?_eq_getElem hi, fun e he hbd => ?_⟩
          have hoi := hops i hi
          simp only [Array.getElem?_eq_getElem hi, Bool.and_eq_true, List.all_eq_true] at hoi
          have hel : e.on < i := by
            have := hoi.1.1.1 e.on (List.mem_map.2 ⟨e, List.mem_filter.2 ⟨by simpa using he, hbd⟩, rfl⟩)
            simpa using this
          exact ih e.on hel (by omega)
        rw [hr] at hm
        cases hm
  have hend : ∀ (r : Nat → Value) (listed : Array Bool) (a : Act) (w : World), StandsS ops (W r) (A r) a₀ calls lo listed a w → Region.ready .any ops listed = [] → Q .normal a w := by
    intro r listed a w h hr
    have hall := hready r listed a w h hr
    have ha : a = A r := by
      have ht : a.tmps = (A r).tmps := by
        apply Array.ext_getElem?
        intro d
        by_cases hd : ∃ (j : Nat) (o : Oper), ops[j]? = some o ∧ o.dst = some d
        · obtain ⟨j, o, ho, hd⟩ := hd
          exact h.here j o d ho (hall j (Array.getElem?_eq_some_iff.1 ho).1) hd
        · have hd' : ∀ (j : Nat) (o : Oper), ops[j]? = some o → o.dst ≠ some d := fun j o ho e => hd ⟨j, o, ho, e⟩
          rw [h.rest d (fun j o ho _ => hd' j o ho), (hE r).rest d hd']
      have hf : a.defers = (A r).defers := by rw [h.df, (hE r).df]
      generalize A r = Ar at *
      cases a
      cases Ar
      simp only at ht hf
      rw [ht, hf]
    have hD : dn calls listed = fun q => decide (q < calls.length) := by
      funext q
      unfold dn
      cases hc : calls[q]? with
      | none =>
        have : ¬ q < calls.length := by rw [List.getElem?_eq_none_iff] at hc; omega
        simp [this]
      | some c =>
        have hq := (List.getElem?_eq_some_iff.1 hc).1
        have h1 := hcalls q hq
        simp only [hc, Bool.and_eq_true, decide_eq_true_eq] at h1
        simp only [hall c h1.1, hq, decide_true]
    rw [ha]
    refine hQ r w ?_
    rw [← hD]
    exact h.world
  intro fuel
  induction fuel with
  | zero =>
    intro listed r0 a w hc hh
    have h := hh r0 (fun _ _ => rfl)
    have hr : Region.ready .any ops listed = [] := by
      apply List.eq_nil_iff_forall_not_mem.2
      intro i hi
      have := unlisted_set (mem_ready.1 hi).1
      omega
    exact ⟨hr, hend r0 listed a w h hr⟩
  | succ fuel ih =>
    intro listed r0 a w hc hh
    have h := hh r0 (fun _ _ => rfl)
    refine ⟨hend r0 listed a w h, fun i hi => ?_⟩
    obtain ⟨hun, o, ho, hall⟩ := mem_ready.1 hi
    have hi' : i < ops.size := (Array.getElem?_eq_some_iff.1 ho).1
    have hcnt := unlisted_set hun
    have hoi := hops i hi'
    simp only [ho, Bool.and_eq_true, List.all_eq_true, List.mem_range] at hoi
    obtain ⟨⟨⟨hord, hdst⟩, hothers⟩, hlow⟩ := hoi
    have hwaits : ∀ e, e ∈ waits o → listed.getD e false = true := fun e he => by
      obtain ⟨x, hx, rfl⟩ := List.mem_map.1 he
      obtain ⟨hx1, hx2⟩ := List.mem_filter.1 hx
      exact hall x (by simpa using hx1) hx2
    have hlo : ∀ q, q ∈ lo.getD i [] → dn calls listed q = true := fun q hq => by
      obtain ⟨e, he, hc⟩ := List.any_eq_true.1 (hlow q hq)
      exact h.since e (hwaits e he) q (by simpa using hc)
    have hidx : ∀ (q c : Nat), calls[q]? = some c → calls.idxOf? c = some q := fun q c hc => by
      have := hcalls q (List.getElem?_eq_some_iff.1 hc).1
      simp only [hc, Bool.and_eq_true, beq_iff_eq] at this
      exact this.2
    have hil : i < listed.size := by rw [h.size]; exact hi'
    have hlooks : ∀ r, (∀ j, dn calls listed j = true → r j = r0 j) → ∀ d, d ∈ o.looksAt ops → a.tmps[d]? = (A r).tmps[d]? := fun r hr d hd => by
      have h := hh r hr
      by_cases hx : ∃ (j : Nat) (oj : Oper), ops[j]? = some oj ∧ oj.dst = some d
      · obtain ⟨j, oj, hoj, hjd⟩ := hx
        have := hothers j (Array.getElem?_eq_some_iff.1 hoj).1
        simp only [hoj, hjd, Bool.and_eq_true, Bool.or_eq_true, Bool.not_eq_true'] at this
        have hin : (waits o).contains j = true := this.1.resolve_left (by simp [hd])
        exact h.here j oj d hoj (hwaits j (by simpa using hin)) hjd
      · have hx' : ∀ (j : Nat) (oj : Oper), ops[j]? = some oj → oj.dst ≠ some d := fun j oj hoj e => hx ⟨j, oj, hoj, e⟩
        rw [h.rest d (fun j oj hoj _ => hx' j oj hoj), (hE r).rest d hx']
    have hwant := fun r hr => wanted_same (o := o) (ops := ops) (hlooks r hr)
    have hexec : ∀ r, (∀ j, dn calls listed j = true → r j = r0 j) → execOp a.eval o = execOp (A r).eval o := fun r hr => execOp_congr o (fun cs b => Region.noSelect_spec hsel i o cs b ho) (fun x hx => eval_same (hlooks r hr) x hx)
    have hOb := hob r0 i o ho
    have r00 : ∀ j, dn calls listed j = true → r0 j = r0 j := fun _ _ => rfl
    unfold wpOp
    simp only [ho]
    unfold ObS at hOb
    by_cases hw : Region.wanted o (yielded ops a.tmps) = true
    · rw [← hwant r0 r00, if_pos hw] at hOb
      rw [if_pos hw]
      refine Or.inl ?_
      unfold Oper.wp
      cases hcall : calls.idxOf? i with
      | some q =>
        rw [hcall] at hOb
        have hDq : dn calls listed q = false := by
          unfold dn
          rw [idx_of hcall]
          exact getD_false_of hun
        have go : ∀ (v : Value) (w' : World), (∀ r', (∀ j, dn calls listed j = true → r' j = r0 j) → r' q = v → vs r' i = v ∧ W r' (fun j => j == q || dn calls listed j) w') → wpAny P .any ops Q fuel (listed.setIfInBounds i true) (a.put o.dst v) w' := fun v w' hT => by
          refine ih _ (fun j => if j = q then v else r0 j) _ w' (by omega) fun r hr => ?_
          have hset := dn_call hidx hil hcall
          have hr1 : ∀ j, dn calls listed j = true → r j = r0 j := fun j hj => by
            have hne : j ≠ q := fun e => by subst e; rw [hDq] at hj; cases hj
            have := hr j (by rw [hset]; simp [hj])
            rwa [if_neg hne] at this
          have hr2 : r q = v := by
            have := hr q (by rw [hset]; simp)
            rwa [if_pos rfl] at this
          obtain ⟨e, hW⟩ := hT r hr1 hr2
          have := (hh r hr1).step hplan (hE r) ho hun hlo (by rw [hset]; exact hW)
          rwa [e] at this
        rw [hexec r0 r00]
        rcases hOb _ w hlo hDq h.world with ⟨f, args, hrun, hcs⟩ | ⟨v, w', hrun, hT⟩ | ⟨hd, w', hrun, hT⟩
        · rw [hrun]
          simp only [Oper.upon]
          refine hcs.mono ?_
          rintro e w' ⟨v, rfl, hT⟩
          exact go v w' hT
        · rw [hrun]
          simp only [Oper.upon]
          exact go v w' hT
        · rw [hrun]
          simp only [Oper.upon]
          have hg := go undef w' hT
          rw [hd] at hg ⊢
          exact hg
      | none =>
        rw [hcall] at hOb
        have hrun0 := hOb _ w hlo h.world
        rw [hexec r0 r00, hrun0]
        simp only [Oper.upon]
        refine ih _ r0 _ w (by omega) fun r hr' => ?_
        have hr : ∀ j, dn calls listed j = true → r j = r0 j := fun j hj => hr' j (dn_mono hil hj)
        have hO2 := hob r i o ho
        unfold ObS at hO2
        rw [← hwant r hr, if_pos hw, hcall] at hO2
        have hrun1 := hO2 _ w hlo (hh r hr).world
        rw [← hexec r hr, hexec r0 r00, hrun0] at hrun1
        have e : vs r0 i = vs r i := by
          simp only [Result.ok.injEq, Next.value.injEq, and_true] at hrun1
          exact hrun1
        rw [e]
        exact (hh r hr).step hplan (hE r) ho hun hlo (by rw [dn_val hcall]; exact (hh r hr).world)
    · rw [← hwant r0 r00, if_neg hw] at hOb
      rw [if_neg hw]
      obtain ⟨hv, hn⟩ := hOb
      refine ih _ r0 _ w (by omega) fun r hr' => ?_
      have hr : ∀ j, dn calls listed j = true → r j = r0 j := fun j hj => hr' j (dn_mono hil hj)
      have hO2 := hob r i o ho
      unfold ObS at hO2
      rw [← hwant r hr, if_neg hw] at hO2
      have := (hh r hr).step hplan (hE r) ho hun hlo (by rw [dn_val hn]; exact (hh r hr).world)
      rwa [hO2.1] at this

section
variable {A : Act} {r : Nat → Value}
theorem obS_val {i : Nat} {o : Oper} (hw : Region.wanted o (yielded ops A.tmps) = true) (hc : calls.idxOf? i = none) (h : ∀ D w, (∀ e, e ∈ lo.getD i [] → D e = true) → W r D w → (execOp A.eval o).run P w = .ok (.value (vs r i)) w) : ObS P W ops A vs calls lo r i o := by
  unfold ObS
  rw [if_pos hw, hc]
  exact h
theorem obS_move {i : Nat} {o : Oper} (x : Operand) (hx : o.op = .move x) (hw : Region.wanted o (yielded ops A.tmps) = true) (hc : calls.idxOf? i = none) (h : A.eval x = vs r i) : ObS P W ops A vs calls lo r i o :=
  obS_val hw hc fun _ w _ _ => by
    unfold execOp
    rw [hx, ← h]
    rfl
theorem obS_skip {i : Nat} {o : Oper} (hw : Region.wanted o (yielded ops A.tmps) = false) (hc : calls.idxOf? i = none) (hv : vs r i = undef) : ObS P W ops A vs calls lo r i o := by
  unfold ObS
  rw [if_neg (by rw [hw]; exact Bool.false_ne_true)]
  exact ⟨hv, hc⟩
theorem obS_call {i q f : Nat} {o : Oper} {args : Array Value} (hw : Region.wanted o (yielded ops A.tmps) = true) (hc : calls.idxOf? i = some q) (hr : ∀ w, (execOp A.eval o).run P w = .ok (.enter f args) w)
    (h : ∀ D w, (∀ e, e ∈ lo.getD i [] → D e = true) → D q = false → W r D w → Calls P f args w (fun e w' => ∃ v, e = .returned v ∧ ∀ r', (∀ j, D j = true → r' j = r j) → r' q = v → vs r' i = v ∧ W r' (fun j => j == q || D j) w')) : ObS P W ops A vs calls lo r i o := by
  unfold ObS
  rw [if_pos hw, hc]
  exact fun D w h1 h2 hw => Or.inl ⟨f, args, hr w, h D w h1 h2 hw⟩
theorem obS_make {i q : Nat} {o : Oper} (hw : Region.wanted o (yielded ops A.tmps) = true) (hc : calls.idxOf? i = some q)
    (h : ∀ D w, (∀ e, e ∈ lo.getD i [] → D e = true) → D q = false → W r D w → ∃ v w', (execOp A.eval o).run P w = .ok (.value v) w' ∧ ∀ r', (∀ j, D j = true → r' j = r j) → r' q = v → vs r' i = v ∧ W r' (fun j => j == q || D j) w') : ObS P W ops A vs calls lo r i o := by
  unfold ObS
  rw [if_pos hw, hc]
  exact fun D w h1 h2 hw => Or.inr (Or.inl (h D w h1 h2 hw))
end

/-- The obligations, one behind the other. -/
def ObsS (P : Program) (W : (Nat → Value) → (Nat → Bool) → World → Prop) (ops : Array Oper) (A : Act) (vs : (Nat → Value) → Nat → Value) (calls : List Nat) (lo : List (List Nat)) (r : Nat → Value) : Nat → List Oper → Prop
  | _, [] => True
  | i, o :: rest => ObS P W ops A vs calls lo r i o ∧ ObsS P W ops A vs calls lo r (i + 1) rest
theorem obsS_at {A : Act} {r : Nat → Value} : ∀ (l : List Oper) (k : Nat), ObsS P W ops A vs calls lo r k l → ∀ i o, l[i]? = some o → ObS P W ops A vs calls lo r (k + i) o
  | [], _, _, i, o, h => by simp at h
  | x :: l, k, h, 0, o, e => by
    simp only [List.getElem?_cons_zero, Option.some.injEq] at e
    subst e
    exact h.1
  | x :: l, k, h, i + 1, o, e => by
    have := obsS_at l (k + 1) h.2 i o (by simpa using e)
    rwa [show k + 1 + i = k + (i + 1) from by omega] at this
/-- The frame at the end, by the plan. -/
theorem laid_endsS {l : List Oper} {vs : Nat → Value} (hplan : planS l.toArray calls lo a₀.tmps.size = true) : EndsAs l.toArray vs (laid a₀ 0 l vs) a₀ := by
  refine laid_ends (calls := []) (lo := []) ?_
  simp only [planS, Bool.and_eq_true, List.all_eq_true, List.mem_range] at hplan
  obtain ⟨⟨hsel, hops⟩, -⟩ := hplan
  simp only [planB, Bool.and_eq_true, List.all_eq_true, List.mem_range]
  refine ⟨⟨hsel, fun i hi => ?_⟩, fun q hq => absurd hq (by simp)⟩
  have h := hops i hi
  cases ho : l.toArray[i]? with
  | none => rw [ho] at h; simp at h
  | some o =>
    rw [ho] at h
    simp only [Bool.and_eq_true] at h
    simp only [Bool.and_eq_true]
    exact ⟨h.1, by simp⟩
theorem ObsS_of_ends {l : List Oper} (hplan : planS l.toArray calls lo a₀.tmps.size = true) (h : ∀ r A, EndsAs l.toArray (vs r) A a₀ → ObsS P W l.toArray A vs calls lo r 0 l) : ∀ r, ObsS P W l.toArray (laid a₀ 0 l (vs r)) vs calls lo r 0 l :=
  fun r => h r _ (laid_endsS hplan)

/-- A region that draws its order, by its plan: W r D: what the world is when those of D are over, having left r 0, r 1, ..; no order among them is asked. -/
theorem wp_region_any_order {id : Nat} {l : List Oper} {w : World} (vs : (Nat → Value) → Nat → Value) (calls : List Nat) (lo : List (List Nat)) (W : (Nat → Value) → (Nat → Bool) → World → Prop) (hm : P.follows .mixedOrders = true) (hplan : planS l.toArray calls lo a₀.tmps.size = true) (hw : ∀ r, W r (fun _ => false) { w with drawn := w.drawn + 1 })
    (hob : ∀ r, ObsS P W l.toArray (laid a₀ 0 l (vs r)) vs calls lo r 0 l) (hQ : ∀ r w, W r (fun q => decide (q < calls.length)) w → Q .normal (laid a₀ 0 l (vs r)) w) : (Code.region id l.toArray true).wp P Q a₀ w := by
  have hD0 : dn calls (Array.replicate l.toArray.size false) = fun _ => false := by
    funext q
    unfold dn
    cases calls[q]? with
    | none => rfl
    | some c => exact none_yet l.toArray.size c
  refine wp_region_any hm (any_of_standsS (A := fun r => laid a₀ 0 l (vs r)) hplan (fun r => laid_endsS hplan) (fun r i o ho => ?_) hQ _ _ (fun _ => undef) a₀ _ ?_ (fun r _ => ⟨by simp, ?_, ?_, ?_, rfl, rfl, by rw [hD0]; exact hw r⟩))
  · have := obsS_at l 0 (hob r) i o (by simpa using ho)
    rwa [Nat.zero_add] at this
  · simp [Array.toList_replicate]
  · intro j hj
    have := none_yet l.toArray.size j
    rw [this] at hj
    cases hj
  · intro j o d _ hj _
    have := none_yet l.toArray.size j
    rw [this] at hj
    cases hj
  · intro d _
    rfl

end
end Go.Proofs.Ytkmlnglmecjmeaa


/- As PhaseS, but that the region's tail, each of which waits for all ahead of it, is walked in order; it may write what the head looks at. Of no program. Conditions: as the theorem names them. -/
namespace Go.Proofs.Ytkmlnglmecjmeaa
open Go

section
variable {P : Program} {ops : Array Oper} {Q : Exit → Act → World → Prop} {W : (Nat → Value) → (Nat → Bool) → World → Prop} {a₀ : Act} {vs : (Nat → Value) → Nat → Value} {calls : List Nat} {lo : List (List Nat)} {n : Nat}

/-- What is asked of the operations and of the plan: by running it. -/
def planV (ops : Array Oper) (n : Nat) (calls : List Nat) (lo : List (List Nat)) (size : Nat) : Bool :=
  Region.noSelect ops &&
  ((List.range ops.size).all fun i => match ops[i]? with
    | none => false
    | some o =>
      ((waits o).all fun e => decide (e < i)) &&
      (match o.dst with | some d => decide (d < size) | none => true) &&
      (decide (n ≤ i) || (List.range n).all fun j => match ops[j]? with
        | none => false
        | some oj => match oj.dst with
          | some d => (!(o.looksAt ops).contains d || (waits o).contains j) && (j == i || o.dst != some d)
          | none => true) &&
      ((lo.getD i []).all fun q => (waits o).any fun e => (overS calls lo e).contains q)) &&
  ((List.range calls.length).all fun q => match calls[q]? with
    | some c => decide (c < n) && (calls.idxOf? c == some q)
    | none => false)

/-- Behind one operation more. -/
theorem StandsS.stepV {W : (Nat → Bool) → World → Prop} {vs : Nat → Value} {A : Act} {i : Nat} (hplan : planV ops n calls lo a₀.tmps.size = true) (hE : EndsAt ops n vs A a₀) (hin : i < n) {listed : Array Bool} {a : Act} {w w' : World} {o : Oper} (h : StandsS ops W A a₀ calls lo listed a w) (htl : ∀ j, n ≤ j → listed.getD j false = false)
    (hi : ops[i]? = some o) (hun : listed.getD i true = false) (hlo : ∀ q, q ∈ lo.getD i [] → dn calls listed q = true) (hw : W (dn calls (listed.setIfInBounds i true)) w') :
    StandsS ops W A a₀ calls lo (listed.setIfInBounds i true) (a.put o.dst (vs i)) w' := by
  simp only [planV, Bool.and_eq_true, List.all_eq_true, List.mem_range] at hplan
  obtain ⟨⟨hsel, hops⟩, hcalls⟩ := hplan
  have hlt : i < listed.size := by
    rcases Nat.lt_or_ge i listed.size with h' | h'
    · exact h'
    · simp [Array.getElem?_eq_none h'] at hun
  have hthis : (listed.setIfInBounds i true).getD i false = true := by simp [hlt]
  have hnow : listed.getD i false = false := getD_false_of hun
  have hoi := hops i (Array.getElem?_eq_some_iff.1 hi).1
  simp only [hi, Bool.and_eq_true, Bool.or_eq_true, decide_eq_true_eq, List.all_eq_true, List.mem_range] at hoi
  obtain ⟨⟨⟨hord, hdst⟩, hothers⟩, _⟩ := hoi
  replace hothers := hothers.resolve_left (by omega)
  have hdsz : ∀ d, o.dst = some d → d < a.tmps.size := fun d hd => by
    rw [hd] at hdst
    rw [h.sz]
    simpa using hdst
  have hset : ∀ j, j ≠ i → (listed.setIfInBounds i true).getD j false = listed.getD j false := fun j e => getD_set_ne false (Ne.symm e)
  refine ⟨by simp [h.size], ?_, ?_, ?_, ?_, ?_, hw⟩
  · intro j hj q hq
    rcases getD_set_false hj with rfl | hj
    · unfold overS at hq
      cases hc : calls.idxOf? j with
      | none =>
        rw [hc] at hq
        exact dn_mono hlt (hlo q hq)
      | some q0 =>
        rw [hc] at hq
        rcases List.mem_cons.1 hq with rfl | hq
        · unfold dn
          rw [idx_of hc]
          exact hthis
        · exact dn_mono hlt (hlo q hq)
    · exact dn_mono hlt (h.since j hj q hq)
  · intro j oj d hoj hj hd
    by_cases e : j = i
    · subst e
      rw [hi] at hoj
      injection hoj with hoj
      subst hoj
      rw [put_at hd (hdsz d hd), hE.dst j o d hin hi hd]
    · have hj' : listed.getD j false = true := by rw [← hset j e]; exact hj
      have hne : o.dst ≠ some d := by
        have hjn : j < n := by
          rcases Nat.lt_or_ge j n with h' | h'
          · exact h'
          · rw [htl j h'] at hj'; cases hj'
        have := hothers j hjn
        simp only [hoj, hd, Bool.and_eq_true, Bool.or_eq_true, beq_iff_eq, bne_iff_ne, ne_eq] at this
        exact this.2.resolve_left e
      rw [put_off hne]
      exact h.here j oj d hoj hj' hd
  · intro d hall
    have hne : o.dst ≠ some d := hall i o hi hthis
    rw [put_off hne]
    refine h.rest d fun j oj hoj hj => ?_
    by_cases e : j = i
    · subst e; rw [hnow] at hj; cases hj
    · exact hall j oj hoj (by rw [hset j e]; exact hj)
  · rw [put_size, h.sz]
  · rw [put_defers, h.df]

/-- Whatever comes up next. -/
theorem any_of_standsV {A : (Nat → Value) → Act} (hplan : planV ops n calls lo a₀.tmps.size = true) (htail : tailB ops n calls = true) (hE : ∀ r, EndsAt ops n (vs r) (A r) a₀) (hob : ∀ r i o, i < n → ops[i]? = some o → ObS P W ops (A r) vs calls lo r i o)
    (hQ : ∀ r w, W r (fun q => decide (q < calls.length)) w → wpAny P .any ops Q (ops.size - n) (Array.replicate n true ++ Array.replicate (ops.size - n) false) (A r) w) :
    ∀ (fuel : Nat) (listed : Array Bool) (r0 : Nat → Value) (a : Act) (w : World), listed.toList.count false = fuel → HeadInv .any ops n listed → (∀ r, (∀ j, dn calls listed j = true → r j = r0 j) → StandsS ops (W r) (A r) a₀ calls lo listed a w) → wpAny P .any ops Q fuel listed a w := by
  have hplan' := hplan
  simp only [planV, Bool.and_eq_true, List.all_eq_true, List.mem_range] at hplan'
  obtain ⟨⟨hsel, hops⟩, hcalls⟩ := hplan'
  simp only [tailB, Bool.and_eq_true, decide_eq_true_eq] at htail
  obtain ⟨⟨⟨⟨hn, hsink⟩, hchain⟩, _⟩, hcn⟩ := htail
  -- the head is over
  have hover : ∀ (r : Nat → Value) (fuel : Nat) (listed : Array Bool) (a : Act) (w : World), listed.toList.count false = fuel → HeadInv .any ops n listed → StandsS ops (W r) (A r) a₀ calls lo listed a w → (∀ i, i < n → listed.getD i false = true) → wpAny P .any ops Q fuel listed a w := by
    intro r fuel listed a w hc hi h hall
    have hl : listed = Array.replicate n true ++ Array.replicate (ops.size - n) false := by
      apply Array.ext
      · rw [hi.size]; simp; omega
      · intro i h1 h2
        by_cases hin : i < n
        · have := hall i hin
          rw [Array.getElem_append_left (by simpa using hin)]
          simpa [h1] using this
        · have := hi.tail i (by omega) (by rw [← hi.size]; exact h1)
          rw [Array.getElem_append_right (by simp; omega)]
          simpa [h1] using this
    have hf : fuel = ops.size - n := by
      rw [← hc, hl]
      simp [Array.toList_replicate, List.count_replicate]
    have ha : a = A r := by
      have ht : a.tmps = (A r).tmps := by
        apply Array.ext_getElem?
        intro d
        by_cases hd : ∃ (j : Nat) (o : Oper), j < n ∧ ops[j]? = some o ∧ o.dst = some d
        · obtain ⟨j, o, hjn, ho, hd⟩ := hd
          exact h.here j o d ho (hall j hjn) hd
        · have hd' : ∀ (j : Nat) (o : Oper), j < n → ops[j]? = some o → o.dst ≠ some d := fun j o hj ho e => hd ⟨j, o, hj, ho, e⟩
          rw [h.rest d (fun j o ho hj => hd' j o (by
            rcases Nat.lt_or_ge j n with h' | h'
            · exact h'
            · have := getD_both (hi.tail j h' (Array.getElem?_eq_some_iff.1 ho).1)
              rw [this] at hj; cases hj) ho), (hE r).rest d hd']
      have hf : a.defers = (A r).defers := by rw [h.df, (hE r).df]
      generalize A r = Ar at *
      cases a
      cases Ar
      simp only at ht hf
      rw [ht, hf]
    have hD : dn calls listed = fun q => decide (q < calls.length) := by
      funext q
      unfold dn
      cases hc : calls[q]? with
      | none =>
        have : ¬ q < calls.length := by rw [List.getElem?_eq_none_iff] at hc; omega
        simp [this]
      | some c =>
        have hq := (List.getElem?_eq_some_iff.1 hc).1
        have h1 := hcalls q hq
        simp only [hc, Bool.and_eq_true, decide_eq_true_eq] at h1
        simp only [hall c h1.1, hq, decide_true]
    have hW := h.world
    rw [hD] at hW
    subst hf
    rw [ha, hl]
    exact hQ r w hW
  intro fuel
  induction fuel with
  | zero =>
    intro listed r0 a w hc hi hh
    have h := hh r0 (fun _ _ => rfl)
    refine hover r0 0 listed a w hc hi h fun i hin => ?_
    have hsz : i < listed.size := by rw [hi.size]; omega
    cases hb : listed.getD i false with
    | true => rfl
    | false =>
      have := unlisted_set (getD_in hsz hb)
      omega
  | succ fuel ih =>
    intro listed r0 a w hc hi hh
    have h := hh r0 (fun _ _ => rfl)
    by_cases hall : ∀ i, i < n → listed.getD i false = true
    · exact hover r0 _ listed a w hc hi h hall
    · have hx : ∃ i, i < n ∧ listed.getD i false = false := by
        apply Classical.byContradiction
        intro hno
        exact hall fun i hin => by
          cases hb : listed.getD i false with
          | true => rfl
          | false => exact absurd ⟨i, hin, hb⟩ hno
      obtain ⟨i₀, hi₀, hb₀⟩ := hx
      have hsz₀ : i₀ < listed.size := by rw [hi.size]; omega
      have hnot := tail_waits hsink hchain hn hi _ i₀ rfl hi₀ (getD_in hsz₀ hb₀)
      -- something is ready: the least that is not there
      have hsome : ∃ i, i ∈ Region.ready .any ops listed := by
        apply Classical.byContradiction
        intro hno
        have hr : Region.ready .any ops listed = [] := List.eq_nil_iff_forall_not_mem.2 fun i hi => hno ⟨i, hi⟩
        have : ∀ i, i < ops.size → listed.getD i false = true := by
          intro i
          induction i using Nat.strongRecOn with
          | ind i ih2 =>
            intro hil
            have hsz : i < listed.size := by rw [hi.size]; exact hil
            cases hb : listed.getD i false with
            | true => rfl
            | false =>
              have hm : i ∈ Region.ready .any ops listed := by
                rw [mem_ready]
                refine ⟨by simpa [hsz] using hb, ops[i], Array.getElem?_eq_getElem hil, fun e he hbd => ?_⟩
                have hoi := hops i hil
                simp only [Array.getElem?_eq_getElem hil, Bool.and_eq_true, List.all_eq_true] at hoi
                have hel : e.on < i := by
                  have := hoi.1.1.1 e.on (List.mem_map.2 ⟨e, List.mem_filter.2 ⟨by simpa using he, hbd⟩, rfl⟩)
                  simpa using this
                exact ih2 e.on hel (by omega)
              rw [hr] at hm
              cases hm
        rw [this i₀ (by omega)] at hb₀
        cases hb₀
      refine ⟨fun hr => ?_, fun i hir => ?_⟩
      · obtain ⟨i, hm⟩ := hsome
        rw [hr] at hm; cases hm
      have hin : i < n := by
        rcases Nat.lt_or_ge i n with h' | h'
        · exact h'
        · exact absurd hir (hnot i h')
      obtain ⟨hun, o, ho, hall⟩ := mem_ready.1 hir
      have hi' : i < ops.size := (Array.getElem?_eq_some_iff.1 ho).1
      have hcnt := unlisted_set hun
      have hoi := hops i hi'
      simp only [ho, Bool.and_eq_true, Bool.or_eq_true, decide_eq_true_eq, List.all_eq_true, List.mem_range] at hoi
      obtain ⟨⟨⟨hord, hdst⟩, hothers⟩, hlow⟩ := hoi
      replace hothers := hothers.resolve_left (by omega)
      have htl : ∀ j, n ≤ j → listed.getD j false = false := fun j hj => by
        rcases Nat.lt_or_ge j listed.size with h' | h'
        · exact getD_both (hi.tail j hj (by rw [← hi.size]; exact h'))
        · simp [Array.getElem?_eq_none h']
      have hwaits : ∀ e, e ∈ waits o → listed.getD e false = true := fun e he => by
        obtain ⟨x, hx, rfl⟩ := List.mem_map.1 he
        obtain ⟨hx1, hx2⟩ := List.mem_filter.1 hx
        exact hall x (by simpa using hx1) hx2
      have hlo : ∀ q, q ∈ lo.getD i [] → dn calls listed q = true := fun q hq => by
        obtain ⟨e, he, hc⟩ := List.any_eq_true.1 (hlow q hq)
        exact h.since e (hwaits e he) q (by simpa using hc)
      have hidx : ∀ (q c : Nat), calls[q]? = some c → calls.idxOf? c = some q := fun q c hc => by
        have := hcalls q (List.getElem?_eq_some_iff.1 hc).1
        simp only [hc, Bool.and_eq_true, beq_iff_eq] at this
        exact this.2
      have hil : i < listed.size := by rw [hi.size]; exact hi'
      have hlooks : ∀ r, (∀ j, dn calls listed j = true → r j = r0 j) → ∀ d, d ∈ o.looksAt ops → a.tmps[d]? = (A r).tmps[d]? := fun r hr d hd => by
        have h := hh r hr
        by_cases hx : ∃ (j : Nat) (oj : Oper), j < n ∧ ops[j]? = some oj ∧ oj.dst = some d
        · obtain ⟨j, oj, hjn, hoj, hjd⟩ := hx
          have := hothers j hjn
          simp only [hoj, hjd, Bool.and_eq_true, Bool.or_eq_true, Bool.not_eq_true'] at this
          have hin2 : (waits o).contains j = true := this.1.resolve_left (by simp [hd])
          exact h.here j oj d hoj (hwaits j (by simpa using hin2)) hjd
        · have hx' : ∀ (j : Nat) (oj : Oper), j < n → ops[j]? = some oj → oj.dst ≠ some d := fun j oj hj hoj e => hx ⟨j, oj, hj, hoj, e⟩
          rw [h.rest d (fun j oj hoj hj => hx' j oj (by
            rcases Nat.lt_or_ge j n with h' | h'
            · exact h'
            · rw [htl j h'] at hj; cases hj) hoj), (hE r).rest d hx']
      have hwant := fun r hr => wanted_same (o := o) (ops := ops) (hlooks r hr)
      have hexec : ∀ r, (∀ j, dn calls listed j = true → r j = r0 j) → execOp a.eval o = execOp (A r).eval o := fun r hr => execOp_congr o (fun cs b => Region.noSelect_spec hsel i o cs b ho) (fun x hx => eval_same (hlooks r hr) x hx)
      have hOb := hob r0 i o hin ho
      have r00 : ∀ j, dn calls listed j = true → r0 j = r0 j := fun _ _ => rfl
      unfold wpOp
      simp only [ho]
      unfold ObS at hOb
      by_cases hw : Region.wanted o (yielded ops a.tmps) = true
      · rw [← hwant r0 r00, if_pos hw] at hOb
        rw [if_pos hw]
        refine Or.inl ?_
        unfold Oper.wp
        cases hcall : calls.idxOf? i with
        | some q =>
          rw [hcall] at hOb
          have hDq : dn calls listed q = false := by
            unfold dn
            rw [idx_of hcall]
            exact getD_false_of hun
          have go : ∀ (v : Value) (w' : World), (∀ r', (∀ j, dn calls listed j = true → r' j = r0 j) → r' q = v → vs r' i = v ∧ W r' (fun j => j == q || dn calls listed j) w') → wpAny P .any ops Q fuel (listed.setIfInBounds i true) (a.put o.dst v) w' := fun v w' hT => by
            refine ih _ (fun j => if j = q then v else r0 j) _ w' (by omega) (hi.set hir hin) fun r hr => ?_
            have hset := dn_call hidx hil hcall
            have hr1 : ∀ j, dn calls listed j = true → r j = r0 j := fun j hj => by
              have hne : j ≠ q := fun e => by subst e; rw [hDq] at hj; cases hj
              have := hr j (by rw [hset]; simp [hj])
              rwa [if_neg hne] at this
            have hr2 : r q = v := by
              have := hr q (by rw [hset]; simp)
              rwa [if_pos rfl] at this
            obtain ⟨e, hW⟩ := hT r hr1 hr2
            have := (hh r hr1).stepV hplan (hE r) hin htl ho hun hlo (by rw [hset]; exact hW)
            rwa [e] at this
          rw [hexec r0 r00]
          rcases hOb _ w hlo hDq h.world with ⟨f, args, hrun, hcs⟩ | ⟨v, w', hrun, hT⟩ | ⟨hd, w', hrun, hT⟩
          · rw [hrun]
            simp only [Oper.upon]
            refine hcs.mono ?_
            rintro e w' ⟨v, rfl, hT⟩
            exact go v w' hT
          · rw [hrun]
            simp only [Oper.upon]
            exact go v w' hT
          · rw [hrun]
            simp only [Oper.upon]
            have hg := go undef w' hT
            rw [hd] at hg ⊢
            exact hg
        | none =>
          rw [hcall] at hOb
          have hrun0 := hOb _ w hlo h.world
          rw [hexec r0 r00, hrun0]
          simp only [Oper.upon]
          refine ih _ r0 _ w (by omega) (hi.set hir hin) fun r hr' => ?_
          have hr : ∀ j, dn calls listed j = true → r j = r0 j := fun j hj => hr' j (dn_mono hil hj)
          have hO2 := hob r i o hin ho
          unfold ObS at hO2
          rw [← hwant r hr, if_pos hw, hcall] at hO2
          have hrun1 := hO2 _ w hlo (hh r hr).world
          rw [← hexec r hr, hexec r0 r00, hrun0] at hrun1
          have e : vs r0 i = vs r i := by
            simp only [Result.ok.injEq, Next.value.injEq, and_true] at hrun1
            exact hrun1
          rw [e]
          exact (hh r hr).stepV hplan (hE r) hin htl ho hun hlo (by rw [dn_val hcall]; exact (hh r hr).world)
      · rw [← hwant r0 r00, if_neg hw] at hOb
        rw [if_neg hw]
        obtain ⟨hv, hnn⟩ := hOb
        refine ih _ r0 _ w (by omega) (hi.set hir hin) fun r hr' => ?_
        have hr : ∀ j, dn calls listed j = true → r j = r0 j := fun j hj => hr' j (dn_mono hil hj)
        have hO2 := hob r i o hin ho
        unfold ObS at hO2
        rw [← hwant r hr, if_neg hw] at hO2
        have := (hh r hr).stepV hplan (hE r) hin htl ho hun hlo (by rw [dn_val hnn]; exact (hh r hr).world)
        rwa [hO2.1] at this

theorem laid_endsV {l t : List Oper} {vs : Nat → Value} (hplan : planV (l ++ t).toArray l.length calls lo a₀.tmps.size = true) : EndsAt (l ++ t).toArray l.length vs (laid a₀ 0 l vs) a₀ := by
  simp only [planV, Bool.and_eq_true, List.all_eq_true, List.mem_range] at hplan
  obtain ⟨⟨_, hops⟩, _⟩ := hplan
  refine ⟨fun j o d hjn ho hd => ?_, fun d h => ?_, laid_size vs l a₀ 0, laid_defers vs l a₀ 0⟩
  · have hj := (Array.getElem?_eq_some_iff.1 ho).1
    have h1 := hops j hj
    simp only [ho, Bool.and_eq_true, Bool.or_eq_true, decide_eq_true_eq, List.all_eq_true, List.mem_range] at h1
    obtain ⟨⟨⟨_, hdst⟩, hothers⟩, _⟩ := h1
    replace hothers := hothers.resolve_left (by omega)
    rw [hd] at hdst
    have hol : l[j]? = some o := by
      have : (l ++ t)[j]? = some o := by simpa using ho
      rwa [List.getElem?_append_left hjn] at this
    have := laid_at vs d l a₀ 0 j o hol hd (by simpa using hdst) (fun k x hx hk e => by
      have hkl := (List.getElem?_eq_some_iff.1 hx).1
      have hx' : (l ++ t).toArray[k]? = some x := by
        rw [List.getElem?_toArray, List.getElem?_append_left hkl]; exact hx
      have h2 := hothers k (by omega)
      simp only [hx', e, Bool.and_eq_true, Bool.or_eq_true, beq_iff_eq, bne_iff_ne, ne_eq] at h2
      exact (h2.2.resolve_left hk) hd)
    rwa [Nat.zero_add] at this
  · refine laid_rest vs d l a₀ 0 fun o ho => ?_
    obtain ⟨j, hj⟩ := List.getElem?_of_mem ho
    have hjl := (List.getElem?_eq_some_iff.1 hj).1
    exact h j o hjl (by rw [List.getElem?_toArray, List.getElem?_append_left hjl]; exact hj)

theorem ObsV_of_ends {l t : List Oper} (hplan : planV (l ++ t).toArray l.length calls lo a₀.tmps.size = true) (h : ∀ r A, EndsAt (l ++ t).toArray l.length (vs r) A a₀ → ObsS P W (l ++ t).toArray A vs calls lo r 0 l) : ∀ r, ObsS P W (l ++ t).toArray (laid a₀ 0 l (vs r)) vs calls lo r 0 l :=
  fun r => h r _ (laid_endsV hplan)

/-- A region that draws its order: its head l by its plan, no order among its calls and makings being asked, its tail t in order. -/
theorem wp_region_any_tail {id : Nat} (l t : List Oper) {w : World} (vs : (Nat → Value) → Nat → Value) (calls : List Nat) (lo : List (List Nat)) (W : (Nat → Value) → (Nat → Bool) → World → Prop) (hm : P.follows .mixedOrders = true) (hplan : planV (l ++ t).toArray l.length calls lo a₀.tmps.size = true) (htail : tailB (l ++ t).toArray l.length calls = true) (hw : ∀ r, W r (fun _ => false) { w with drawn := w.drawn + 1 })
    (hob : ∀ r, ObsS P W (l ++ t).toArray (laid a₀ 0 l (vs r)) vs calls lo r 0 l) (hQ : ∀ r w, W r (fun q => decide (q < calls.length)) w → wpList P (l ++ t).toArray Q t (laid a₀ 0 l (vs r)) w) : (Code.region id (l ++ t).toArray true).wp P Q a₀ w := by
  have htail' := htail
  simp only [tailB, Bool.and_eq_true, decide_eq_true_eq] at htail'
  obtain ⟨⟨⟨⟨hn, _⟩, _⟩, hseq⟩, hcn⟩ := htail'
  have hsz : (l ++ t).toArray.size - l.length = t.length := by simp
  have hD0 : dn calls (Array.replicate (l ++ t).toArray.size false) = fun _ => false := by
    funext q
    unfold dn
    cases calls[q]? with
    | none => rfl
    | some c => exact none_yet (l ++ t).toArray.size c
  refine wp_region_any hm (any_of_standsV (A := fun r => laid a₀ 0 l (vs r)) hplan htail (fun r => laid_endsV hplan) (fun r i o hin ho => ?_) (fun r w' hw' => ?_) _ _ (fun _ => undef) a₀ _ ?_ ⟨by simp, ?_, ?_⟩ (fun r _ => ⟨by simp, ?_, ?_, ?_, rfl, rfl, by rw [hD0]; exact hw r⟩))
  · have hol : l[i]? = some o := by
      have : (l ++ t)[i]? = some o := by simpa using ho
      rwa [List.getElem?_append_left hin] at this
    have := obsS_at l 0 (hob r) i o hol
    rwa [Nat.zero_add] at this
  · rw [hsz]
    refine wpAny_of_seq t l.length _ _ _ (fun j => ?_) ?_ (hQ r w' hw')
    · rw [List.getElem?_toArray, List.getElem?_append_right (by omega), Nat.add_sub_cancel_left]
    · rw [hsz] at hseq
      exact hseq
  · simp [Array.toList_replicate]
  · intro j oj _ hl
    have := none_yet (l ++ t).toArray.size j
    rw [this] at hl
    cases hl
  · intro j h1 h2
    rw [Array.getD_eq_getD_getElem?, Array.getElem?_replicate, if_pos h2]
    rfl
  · intro j hj
    have := none_yet (l ++ t).toArray.size j
    rw [this] at hj
    cases hj
  · intro j o d _ hj _
    have := none_yet (l ++ t).toArray.size j
    rw [this] at hj
    cases hj
  · intro d _
    rfl

theorem at_outV {vs : Nat → Value} {A : Act} (hE : EndsAt ops n vs A a₀) {d : Nat} (h : ((ops.toList.take n).all fun o => o.dst != some d) = true) : A.tmps[d]? = a₀.tmps[d]? :=
  hE.rest d (fun j o hj ho e => by
    have hm : o ∈ ops.toList.take n := List.mem_take_iff_getElem.2 ⟨j, by
      have := (Array.getElem?_eq_some_iff.1 ho).1
      simp
      omega, by
      have := (Array.getElem?_eq_some_iff.1 ho).2
      simpa using this⟩
    have := List.all_eq_true.1 h o hm
    simp [e] at this)
theorem eval_outV {vs : Nat → Value} {A : Act} (hE : EndsAt ops n vs A a₀) {d : Nat} (h : ((ops.toList.take n).all fun o => o.dst != some d) = true) : A.eval (.tmp d) = a₀.eval (.tmp d) := by
  simp [Act.eval, at_outV hE h]

end
end Go.Proofs.Ytkmlnglmecjmeaa
