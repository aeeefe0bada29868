/- A region that draws its order, whose calls answer what is not known ahead: as Phase, but that what each operation leaves is told by what the calls answered (r 0, r 1, ..). Of no program. Conditions: as the theorem names them. -/
import Derived.Test.YtghnnmgohkfljaaPhase
namespace Go.Proofs.Ytghnnmgohkfljaa
open Go

section
variable {P : Program} {ops : Array Oper} {Q : Exit → Act → World → Prop} {W : (Nat → Value) → Nat → World → Prop} {a₀ : Act} {A : (Nat → Value) → Act} {vs : (Nat → Value) → Nat → Value} {calls lo : List Nat}

/-- What is asked of operation o, number i, the calls having answered r, the frame being read as it is at the end then. -/
def ObR (P : Program) (W : (Nat → Value) → Nat → World → Prop) (ops : Array Oper) (A : Act) (vs : (Nat → Value) → Nat → Value) (calls lo : List Nat) (r : Nat → Value) (i : Nat) (o : Oper) : Prop :=
  if Region.wanted o (yielded ops A.tmps) = true then
    match calls.idxOf? i with
    | some q => ∀ w, W r q w → (∃ f args, (execOp A.eval o).run P w = .ok (.enter f args) w ∧ Calls P f args w (fun e w' => ∃ v, e = .returned v ∧ ∀ r', (∀ j, j < q → r' j = r j) → r' q = v → vs r' i = v ∧ W r' (q + 1) w'))
        ∨ (∃ v w', (execOp A.eval o).run P w = .ok (.value v) w' ∧ ∀ r', (∀ j, j < q → r' j = r j) → r' q = v → vs r' i = v ∧ W r' (q + 1) w')
        ∨ (o.dst = none ∧ ∃ w', (execOp A.eval o).run P w = .ok .skip w' ∧ ∀ r', (∀ j, j < q → r' j = r j) → r' q = undef → vs r' i = undef ∧ W r' (q + 1) w')
    | none => ∀ p w, lo.getD i 0 ≤ p → p ≤ calls.length → W r p w → (execOp A.eval o).run P w = .ok (.value (vs r i)) w
  else vs r i = undef ∧ calls.idxOf? i = none

/-- Whatever comes up next. -/
theorem any_of_standsR (hplan : planB ops calls lo a₀.tmps.size = true) (hE : ∀ r, EndsAs ops (vs r) (A r) a₀) (hob : ∀ r i o, ops[i]? = some o → ObR P W ops (A r) vs calls lo r i o)
    (hQ : ∀ r w, W r calls.length w → Q .normal (A r) w) :
    ∀ (fuel : Nat) (listed : Array Bool) (p : Nat) (r0 : Nat → Value) (a : Act) (w : World), listed.toList.count false ≤ fuel → (∀ r, (∀ j, j < p → r j = r0 j) → Stands ops (W r) (A r) a₀ calls lo listed p a w) → wpAny P .any ops Q fuel listed a w := by
  have hplan' := hplan
  simp only [planB, Bool.and_eq_true, List.all_eq_true, List.mem_range] at hplan'
  obtain ⟨⟨hsel, hops⟩, hcalls⟩ := hplan'
  -- all that is not there waits for nothing that is not there
  have hready : ∀ (r : Nat → Value) (listed : Array Bool) (p : Nat) (a : Act) (w : World), Stands ops (W r) (A r) a₀ calls lo listed p a w → Region.ready .any ops listed = [] → ∀ i, i < ops.size → listed.getD i false = true := by
    intro r listed p a w h hr i
    induction i using Nat.strongRecOn with
    | ind i ih =>
      intro hi
      have hsz : i < listed.size := by rw [h.size]; exact hi
      cases hb : listed.getD i false with
      | true => rfl
      | false =>
        have hm : i ∈ Region.ready .any ops listed := by
          rw [mem_ready]
          refine ⟨by simpa [hsz] using hb, ops[i], Array.getElem?_eq_getElem hi, fun e he hbd => ?_⟩
          have hoi := hops i hi
          simp only [Array.getElem?_eq_getElem hi, Bool.and_eq_true, List.all_eq_true] at hoi
          have hel : e.on < i := by
            have := hoi.1.1.1 e.on (List.mem_map.2 ⟨e, List.mem_filter.2 ⟨by simpa using he, hbd⟩, rfl⟩)
            simpa using this
          exact ih e.on hel (by omega)
        rw [hr] at hm
        cases hm
  have hend : ∀ (r : Nat → Value) (listed : Array Bool) (p : Nat) (a : Act) (w : World), Stands ops (W r) (A r) a₀ calls lo listed p a w → Region.ready .any ops listed = [] → Q .normal a w := by
    intro r listed p a w h hr
    have hall := hready r listed p a w h hr
    have ha : a = A r := by
      have ht : a.tmps = (A r).tmps := by
        apply Array.ext_getElem?
        intro d
        by_cases hd : ∃ (j : Nat) (o : Oper), ops[j]? = some o ∧ o.dst = some d
        · obtain ⟨j, o, ho, hd⟩ := hd
          exact h.here j o d ho (hall j (Array.getElem?_eq_some_iff.1 ho).1) hd
        · have hd' : ∀ (j : Nat) (o : Oper), ops[j]? = some o → o.dst ≠ some d := fun j o ho e => hd ⟨j, o, ho, e⟩
          rw [h.rest d (fun j o ho _ => hd' j o ho), (hE r).rest d hd']
      have hf : a.defers = (A r).defers := by rw [h.df, (hE r).df]
      generalize A r = Ar at *
      cases a
      cases Ar
      simp only at ht hf
      rw [ht, hf]
    have hp : p = calls.length := by
      rcases Nat.lt_or_ge p calls.length with hlt | hge
      · have hc := List.getElem?_eq_getElem hlt
        have h1 := hcalls p hlt
        simp only [hc, Bool.and_eq_true, decide_eq_true_eq] at h1
        have := (h.cs p _ hc).1 (hall _ h1.1.1)
        omega
      · have := h.le; omega
    subst hp
    rw [ha]
    exact hQ r w h.world
  intro fuel
  induction fuel with
  | zero =>
    intro listed p r0 a w hc hh
    have h := hh r0 (fun _ _ => rfl)
    have hr : Region.ready .any ops listed = [] := by
      apply List.eq_nil_iff_forall_not_mem.2
      intro i hi
      have := unlisted_set (mem_ready.1 hi).1
      omega
    exact ⟨hr, hend r0 listed p a w h hr⟩
  | succ fuel ih =>
    intro listed p r0 a w hc hh
    have h := hh r0 (fun _ _ => rfl)
    refine ⟨hend r0 listed p a w h, fun i hi => ?_⟩
    obtain ⟨hun, o, ho, hall⟩ := mem_ready.1 hi
    have hi' : i < ops.size := (Array.getElem?_eq_some_iff.1 ho).1
    have hcnt := unlisted_set hun
    have hoi := hops i hi'
    simp only [ho, Bool.and_eq_true, List.all_eq_true, List.mem_range] at hoi
    obtain ⟨⟨⟨hord, hdst⟩, hothers⟩, hlow⟩ := hoi
    have hwaits : ∀ e, e ∈ waits o → listed.getD e false = true := fun e he => by
      obtain ⟨x, hx, rfl⟩ := List.mem_map.1 he
      obtain ⟨hx1, hx2⟩ := List.mem_filter.1 hx
      exact hall x (by simpa using hx1) hx2
    have hlo : lo.getD i 0 ≤ p := by
      rw [Bool.or_eq_true] at hlow
      rcases hlow with h0 | h0
      · rw [beq_iff_eq] at h0; omega
      · obtain ⟨e, he, hle⟩ := List.any_eq_true.1 h0
        have := h.since e (hwaits e he)
        simp only [decide_eq_true_eq] at hle
        omega
    have hlooks : ∀ r, (∀ j, j < p → r j = r0 j) → ∀ d, d ∈ o.looksAt ops → a.tmps[d]? = (A r).tmps[d]? := fun r hr d hd => by
      have h := hh r hr
      by_cases hx : ∃ (j : Nat) (oj : Oper), ops[j]? = some oj ∧ oj.dst = some d
      · obtain ⟨j, oj, hoj, hjd⟩ := hx
        have := hothers j (Array.getElem?_eq_some_iff.1 hoj).1
        simp only [hoj, hjd, Bool.and_eq_true, Bool.or_eq_true, Bool.not_eq_true'] at this
        have hin : (waits o).contains j = true := this.1.resolve_left (by simp [hd])
        exact h.here j oj d hoj (hwaits j (by simpa using hin)) hjd
      · have hx' : ∀ (j : Nat) (oj : Oper), ops[j]? = some oj → oj.dst ≠ some d := fun j oj hoj e => hx ⟨j, oj, hoj, e⟩
        rw [h.rest d (fun j oj hoj _ => hx' j oj hoj), (hE r).rest d hx']
    have hwant := fun r hr => wanted_same (o := o) (ops := ops) (hlooks r hr)
    have hexec : ∀ r, (∀ j, j < p → r j = r0 j) → execOp a.eval o = execOp (A r).eval o := fun r hr => execOp_congr o (fun cs b => Region.noSelect_spec hsel i o cs b ho) (fun x hx => eval_same (hlooks r hr) x hx)
    have hOb := hob r0 i o ho
    have r00 : ∀ j, j < p → r0 j = r0 j := fun _ _ => rfl
    unfold wpOp
    simp only [ho]
    unfold ObR at hOb
    by_cases hw : Region.wanted o (yielded ops a.tmps) = true
    · rw [← hwant r0 r00, if_pos hw] at hOb
      rw [if_pos hw]
      refine Or.inl ?_
      unfold Oper.wp
      cases hcall : calls.idxOf? i with
      | some q =>
        rw [hcall] at hOb
        have hqp : q = p := by
          have hcq : calls[q]? = some i := by
            obtain ⟨hql, hqe, _⟩ := List.idxOf?_eq_some_iff.1 hcall
            rw [List.getElem?_eq_getElem hql]
            simp_all
          have h1 := h.cs q i hcq
          have h2 : ¬ q < p := fun hlt => by
            have := h1.2 hlt
            rw [getD_false_of hun] at this
            cases this
          have h3 := hcalls q (List.getElem?_eq_some_iff.1 hcq).1
          simp only [hcq, Bool.and_eq_true, decide_eq_true_eq] at h3
          omega
        subst hqp
        have go : ∀ (v : Value) (w' : World), (∀ r', (∀ j, j < q → r' j = r0 j) → r' q = v → vs r' i = v ∧ W r' (q + 1) w') → wpAny P .any ops Q fuel (listed.setIfInBounds i true) (a.put o.dst v) w' := fun v w' hT => by
          refine ih _ (q + 1) (fun j => if j = q then v else r0 j) _ w' (by omega) fun r hr => ?_
          have hr1 : ∀ j, j < q → r j = r0 j := fun j hj => by
            have := hr j (by omega)
            rwa [if_neg (by omega)] at this
          have hr2 : r q = v := by
            have := hr q (by omega)
            rwa [if_pos rfl] at this
          obtain ⟨e, hW⟩ := hT r hr1 hr2
          have := (hh r hr1).step hplan (hE r) ho hun (Or.inl ⟨hcall, rfl⟩) hlo hW
          rwa [e] at this
        rw [hexec r0 r00]
        rcases hOb w h.world with ⟨f, args, hrun, hcs⟩ | ⟨v, w', hrun, hT⟩ | ⟨hd, w', hrun, hT⟩
        · rw [hrun]
          simp only [Oper.upon]
          refine hcs.mono ?_
          rintro e w' ⟨v, rfl, hT⟩
          exact go v w' hT
        · rw [hrun]
          simp only [Oper.upon]
          exact go v w' hT
        · rw [hrun]
          simp only [Oper.upon]
          have hg := go undef w' hT
          rw [hd] at hg ⊢
          exact hg
      | none =>
        rw [hcall] at hOb
        have hrun0 := hOb p w hlo h.le h.world
        rw [hexec r0 r00, hrun0]
        simp only [Oper.upon]
        refine ih _ p r0 _ w (by omega) fun r hr => ?_
        have hO2 := hob r i o ho
        unfold ObR at hO2
        rw [← hwant r hr, if_pos hw, hcall] at hO2
        have hrun1 := hO2 p w hlo (hh r hr).le (hh r hr).world
        rw [← hexec r hr, hexec r0 r00, hrun0] at hrun1
        have e : vs r0 i = vs r i := by
          simp only [Result.ok.injEq, Next.value.injEq, and_true] at hrun1
          exact hrun1
        rw [e]
        exact (hh r hr).step hplan (hE r) ho hun (Or.inr ⟨hcall, rfl⟩) hlo (hh r hr).world
    · rw [← hwant r0 r00, if_neg hw] at hOb
      rw [if_neg hw]
      obtain ⟨hv, hn⟩ := hOb
      refine ih _ p r0 _ w (by omega) fun r hr => ?_
      have hO2 := hob r i o ho
      unfold ObR at hO2
      rw [← hwant r hr, if_neg hw] at hO2
      have := (hh r hr).step hplan (hE r) ho hun (Or.inr ⟨hn, rfl⟩) hlo (hh r hr).world
      rwa [hO2.1] at this

section
variable {A : Act} {r : Nat → Value}
theorem obR_val {i : Nat} {o : Oper} (hw : Region.wanted o (yielded ops A.tmps) = true) (hc : calls.idxOf? i = none) (h : ∀ p w, lo.getD i 0 ≤ p → p ≤ calls.length → W r p w → (execOp A.eval o).run P w = .ok (.value (vs r i)) w) : ObR P W ops A vs calls lo r i o := by
  unfold ObR
  rw [if_pos hw, hc]
  exact h
theorem obR_move {i : Nat} {o : Oper} (x : Operand) (hx : o.op = .move x) (hw : Region.wanted o (yielded ops A.tmps) = true) (hc : calls.idxOf? i = none) (h : A.eval x = vs r i) : ObR P W ops A vs calls lo r i o :=
  obR_val hw hc fun _ w _ _ _ => by
    unfold execOp
    rw [hx, ← h]
    rfl
theorem obR_skip {i : Nat} {o : Oper} (hw : Region.wanted o (yielded ops A.tmps) = false) (hc : calls.idxOf? i = none) (hv : vs r i = undef) : ObR P W ops A vs calls lo r i o := by
  unfold ObR
  rw [if_neg (by rw [hw]; exact Bool.false_ne_true)]
  exact ⟨hv, hc⟩
theorem obR_call {i q f : Nat} {o : Oper} {args : Array Value} (hw : Region.wanted o (yielded ops A.tmps) = true) (hc : calls.idxOf? i = some q) (hr : ∀ w, (execOp A.eval o).run P w = .ok (.enter f args) w)
    (h : ∀ w, W r q w → Calls P f args w (fun e w' => ∃ v, e = .returned v ∧ ∀ r', (∀ j, j < q → r' j = r j) → r' q = v → vs r' i = v ∧ W r' (q + 1) w')) : ObR P W ops A vs calls lo r i o := by
  unfold ObR
  rw [if_pos hw, hc]
  exact fun w hw => Or.inl ⟨f, args, hr w, h w hw⟩
theorem obR_make {i q : Nat} {o : Oper} (hw : Region.wanted o (yielded ops A.tmps) = true) (hc : calls.idxOf? i = some q) (h : ∀ w, W r q w → ∃ v w', (execOp A.eval o).run P w = .ok (.value v) w' ∧ ∀ r', (∀ j, j < q → r' j = r j) → r' q = v → vs r' i = v ∧ W r' (q + 1) w') : ObR P W ops A vs calls lo r i o := by
  unfold ObR
  rw [if_pos hw, hc]
  exact fun w hw => Or.inr (Or.inl (h w hw))
theorem obR_store {i q : Nat} {o : Oper} (hd : o.dst = none) (hw : Region.wanted o (yielded ops A.tmps) = true) (hc : calls.idxOf? i = some q) (h : ∀ w, W r q w → ∃ w', (execOp A.eval o).run P w = .ok .skip w' ∧ ∀ r', (∀ j, j < q → r' j = r j) → r' q = undef → vs r' i = undef ∧ W r' (q + 1) w') : ObR P W ops A vs calls lo r i o := by
  unfold ObR
  rw [if_pos hw, hc]
  exact fun w hw => Or.inr (Or.inr ⟨hd, h w hw⟩)
end

/-- The obligations, one behind the other. -/
def ObsR (P : Program) (W : (Nat → Value) → Nat → World → Prop) (ops : Array Oper) (A : Act) (vs : (Nat → Value) → Nat → Value) (calls lo : List Nat) (r : Nat → Value) : Nat → List Oper → Prop
  | _, [] => True
  | i, o :: rest => ObR P W ops A vs calls lo r i o ∧ ObsR P W ops A vs calls lo r (i + 1) rest
theorem obsR_at {A : Act} {r : Nat → Value} : ∀ (l : List Oper) (k : Nat), ObsR P W ops A vs calls lo r k l → ∀ i o, l[i]? = some o → ObR P W ops A vs calls lo r (k + i) o
  | [], _, _, i, o, h => by simp at h
  | x :: l, k, h, 0, o, e => by
    simp only [List.getElem?_cons_zero, Option.some.injEq] at e
    subst e
    exact h.1
  | x :: l, k, h, i + 1, o, e => by
    have := obsR_at l (k + 1) h.2 i o (by simpa using e)
    rwa [show k + 1 + i = k + (i + 1) from by omega] at this
theorem ObsR_of_ends {l : List Oper} (hplan : planB l.toArray calls lo a₀.tmps.size = true) (h : ∀ r A, EndsAs l.toArray (vs r) A a₀ → ObsR P W l.toArray A vs calls lo r 0 l) : ∀ r, ObsR P W l.toArray (laid a₀ 0 l (vs r)) vs calls lo r 0 l :=
  fun r => h r _ (laid_ends hplan)

/-- A region that draws its order, by its plan: W r 0 behind the draw, W r q behind q calls that answered r 0, r 1, ..; what each operation leaves is told by these. -/
theorem wp_region_results {id : Nat} {l : List Oper} {w : World} (vs : (Nat → Value) → Nat → Value) (calls lo : List Nat) (W : (Nat → Value) → Nat → World → Prop) (hm : P.follows .mixedOrders = true) (hplan : planB l.toArray calls lo a₀.tmps.size = true) (hw : ∀ r, W r 0 { w with drawn := w.drawn + 1 })
    (hob : ∀ r, ObsR P W l.toArray (laid a₀ 0 l (vs r)) vs calls lo r 0 l) (hQ : ∀ r w, W r calls.length w → Q .normal (laid a₀ 0 l (vs r)) w) : (Code.region id l.toArray true).wp P Q a₀ w := by
  refine wp_region_any hm (any_of_standsR (A := fun r => laid a₀ 0 l (vs r)) hplan (fun r => laid_ends hplan) (fun r i o ho => ?_) hQ _ _ 0 (fun _ => undef) a₀ _ ?_ (fun r _ => ⟨by simp, ?_, ?_, Nat.zero_le _, ?_, ?_, rfl, rfl, hw r⟩))
  · have := obsR_at l 0 (hob r) i o (by simpa using ho)
    rwa [Nat.zero_add] at this
  · simp [Array.toList_replicate]
  · intro q c _
    have := none_yet l.toArray.size c
    rw [this]
    simp
  · intro j hj
    have := none_yet l.toArray.size j
    rw [this] at hj
    cases hj
  · intro j o d _ hj _
    have := none_yet l.toArray.size j
    rw [this] at hj
    cases hj
  · intro d _
    rfl

end
end Go.Proofs.Ytghnnmgohkfljaa
