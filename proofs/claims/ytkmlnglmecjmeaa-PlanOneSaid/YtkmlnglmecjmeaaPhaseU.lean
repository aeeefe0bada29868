import Derived.Test.YtkmlnglmecjmeaaPhaseA
/- A region that draws its order and writes, by its plan (Phase), which says also ahead of which call (or store) an operation comes up at the latest. Of no program. Conditions: as the theorem names them. Written by mkU.py. -/
namespace Go.Proofs.Ytkmlnglmecjmeaa
open Go

section
variable {P : Program} {ops : Array Oper} {Q : Exit → Act → World → Prop} {W : Nat → World → Prop} {A a₀ : Act} {vs : Nat → Value} {calls lo hi : List Nat}

/-- Whom call hi waits for, comes ahead of it. -/
def upB (ops : Array Oper) (calls hi : List Nat) : Bool := (List.range ops.size).all fun i => decide (calls.length ≤ hi.getD i calls.length) || (match calls[hi.getD i calls.length]? with
  | some c => match ops[c]? with
    | some o => (waits o).contains i
    | none => false
  | none => false)
/-- Whom what is there waits for, is there. -/
def Clos (ops : Array Oper) (listed : Array Bool) : Prop := ∀ (c : Nat) (o : Oper), ops[c]? = some o → listed.getD c false = true → ∀ e ∈ waits o, listed.getD e false = true
theorem listed_more {listed : Array Bool} {i e : Nat} (h : listed.getD e false = true) : (listed.setIfInBounds i true).getD e false = true := by
  by_cases hie : i = e
  · subst hie
    have hlt : i < listed.size := by
      rcases Nat.lt_or_ge i listed.size with h' | h'
      · exact h'
      · simp [Array.getElem?_eq_none h'] at h
    simp [hlt]
  · rw [getD_set_ne false hie]; exact h
theorem Clos.step {listed : Array Bool} {i : Nat} {o : Oper} (h : Clos ops listed) (ho : ops[i]? = some o) (hw : ∀ e, e ∈ waits o → listed.getD e false = true) : Clos ops (listed.setIfInBounds i true) := by
  intro c oc hc hl e he
  rcases getD_set_false hl with rfl | hl
  · rw [ho] at hc
    injection hc with hc
    subst hc
    exact listed_more (hw e he)
  · exact listed_more (h c oc hc hl e he)

/-- What is asked of operation o, number i, that comes up ahead of call hi at the latest, the frame being read as it is at the end. -/
def ObU (P : Program) (W : Nat → World → Prop) (ops : Array Oper) (A : Act) (vs : Nat → Value) (calls lo hi : List Nat) (i : Nat) (o : Oper) : Prop :=
  if Region.wanted o (yielded ops A.tmps) = true then
    match calls.idxOf? i with
    | some q => ∀ w, W q w → (∃ f args, (execOp A.eval o).run P w = .ok (.enter f args) w ∧ Calls P f args w (fun e w' => e = .returned (vs i) ∧ W (q + 1) w')) ∨ (∃ w', (execOp A.eval o).run P w = .ok (.value (vs i)) w' ∧ W (q + 1) w') ∨ (o.dst = none ∧ ∃ w', (execOp A.eval o).run P w = .ok .skip w' ∧ W (q + 1) w')
    | none => ∀ p w, lo.getD i 0 ≤ p → p ≤ hi.getD i calls.length → W p w → (execOp A.eval o).run P w = .ok (.value (vs i)) w
  else vs i = undef ∧ calls.idxOf? i = none

theorem any_of_standsU (hplan : planB ops calls lo a₀.tmps.size = true) (hupper : upB ops calls hi = true) (hE : EndsAs ops vs A a₀) (hob : ∀ i o, ops[i]? = some o → ObU P W ops A vs calls lo hi i o)
    (hQ : ∀ w, W calls.length w → Q .normal A w) :
    ∀ (fuel : Nat) (listed : Array Bool) (p : Nat) (a : Act) (w : World), listed.toList.count false ≤ fuel → Stands ops W A a₀ calls lo listed p a w → Clos ops listed → wpAny P .any ops Q fuel listed a w := by
  have hplan' := hplan
  simp only [planB, Bool.and_eq_true, List.all_eq_true, List.mem_range] at hplan'
  obtain ⟨⟨hsel, hops⟩, hcalls⟩ := hplan'
  -- all that is not there waits for nothing that is not there
  have hready : ∀ (listed : Array Bool) (p : Nat) (a : Act) (w : World), Stands ops W A a₀ calls lo listed p a w → Region.ready .any ops listed = [] → ∀ i, i < ops.size → listed.getD i false = true := by
    intro listed p a w h hr i
    induction i using Nat.strongRecOn with
    | ind i ih =>
      intro hi
      have hsz : i < listed.size := by rw [h.size]; exact hi
      cases hb : listed.getD i false with
      | true => rfl
      | false =>
        have hm : i ∈ Region.ready .any ops listed := by
          rw [mem_ready]
          refine ⟨by simpa [hsz] using hb, ops[i], Array.getElem?_eq_getElem hi, fun e he hbd => ?_⟩
          have hoi := hops i hi
          simp only [Array.getElem?_eq_getElem hi, Bool.and_eq_true, List.all_eq_true] at hoi
          have hel : e.on < i := by
            have := hoi.1.1.1 e.on (List.mem_map.2 ⟨e, List.mem_filter.2 ⟨by simpa using he, hbd⟩, rfl⟩)
            simpa using this
          exact ih e.on hel (by omega)
        rw [hr] at hm
        cases hm
  have hend : ∀ (listed : Array Bool) (p : Nat) (a : Act) (w : World), Stands ops W A a₀ calls lo listed p a w → Region.ready .any ops listed = [] → Q .normal a w := by
    intro listed p a w h hr
    have hall := hready listed p a w h hr
    have ha : a = A := by
      have ht : a.tmps = A.tmps := by
        apply Array.ext_getElem?
        intro d
        by_cases hd : ∃ (j : Nat) (o : Oper), ops[j]? = some o ∧ o.dst = some d
        · obtain ⟨j, o, ho, hd⟩ := hd
          exact h.here j o d ho (hall j (Array.getElem?_eq_some_iff.1 ho).1) hd
        · have hd' : ∀ (j : Nat) (o : Oper), ops[j]? = some o → o.dst ≠ some d := fun j o ho e => hd ⟨j, o, ho, e⟩
          rw [h.rest d (fun j o ho _ => hd' j o ho), hE.rest d hd']
      have hf : a.defers = A.defers := by rw [h.df, hE.df]
      cases a
      cases A
      simp only at ht hf
      rw [ht, hf]
    have hp : p = calls.length := by
      rcases Nat.lt_or_ge p calls.length with hlt | hge
      · have hc := List.getElem?_eq_getElem hlt
        have h1 := hcalls p hlt
        simp only [hc, Bool.and_eq_true, decide_eq_true_eq] at h1
        have := (h.cs p _ hc).1 (hall _ h1.1.1)
        omega
      · have := h.le; omega
    subst ha hp
    exact hQ w h.world
  intro fuel
  induction fuel with
  | zero =>
    intro listed p a w hc h hcl
    have hr : Region.ready .any ops listed = [] := by
      apply List.eq_nil_iff_forall_not_mem.2
      intro i hiR
      have := unlisted_set (mem_ready.1 hiR).1
      omega
    exact ⟨hr, hend listed p a w h hr⟩
  | succ fuel ih =>
    intro listed p a w hc h hcl
    refine ⟨hend listed p a w h, fun i hiR => ?_⟩
    obtain ⟨hun, o, ho, hall⟩ := mem_ready.1 hiR
    have hi2' : i < ops.size := (Array.getElem?_eq_some_iff.1 ho).1
    have hcnt := unlisted_set hun
    have hoi := hops i hi2'
    simp only [ho, Bool.and_eq_true, List.all_eq_true, List.mem_range] at hoi
    obtain ⟨⟨⟨hord, hdst⟩, hothers⟩, hlow⟩ := hoi
    have hwaits : ∀ e, e ∈ waits o → listed.getD e false = true := fun e he => by
      obtain ⟨x, hx, rfl⟩ := List.mem_map.1 he
      obtain ⟨hx1, hx2⟩ := List.mem_filter.1 hx
      exact hall x (by simpa using hx1) hx2
    have hlo : lo.getD i 0 ≤ p := by
      rw [Bool.or_eq_true] at hlow
      rcases hlow with h0 | h0
      · rw [beq_iff_eq] at h0; omega
      · obtain ⟨e, he, hle⟩ := List.any_eq_true.1 h0
        have := h.since e (hwaits e he)
        simp only [decide_eq_true_eq] at hle
        omega
    have hup : p ≤ hi.getD i calls.length := by
      have hu := List.all_eq_true.1 hupper i (List.mem_range.2 hi2')
      rw [Bool.or_eq_true] at hu
      rcases hu with hu | hu
      · exact Nat.le_trans h.le (of_decide_eq_true hu)
      · split at hu
        · rename_i c hc
          split at hu
          · rename_i oc hoc
            refine Nat.le_of_not_lt fun hlt => ?_
            have h1 := (h.cs _ c hc).2 hlt
            have h2 := hcl c oc hoc h1 i (by simpa using hu)
            rw [getD_false_of hun] at h2
            cases h2
          · cases hu
        · cases hu
    have hlooks : ∀ d, d ∈ o.looksAt ops → a.tmps[d]? = A.tmps[d]? := fun d hd => by
      by_cases hx : ∃ (j : Nat) (oj : Oper), ops[j]? = some oj ∧ oj.dst = some d
      · obtain ⟨j, oj, hoj, hjd⟩ := hx
        have := hothers j (Array.getElem?_eq_some_iff.1 hoj).1
        simp only [hoj, hjd, Bool.and_eq_true, Bool.or_eq_true, Bool.not_eq_true'] at this
        have hin : (waits o).contains j = true := this.1.resolve_left (by simp [hd])
        exact h.here j oj d hoj (hwaits j (by simpa using hin)) hjd
      · have hx' : ∀ (j : Nat) (oj : Oper), ops[j]? = some oj → oj.dst ≠ some d := fun j oj hoj e => hx ⟨j, oj, hoj, e⟩
        rw [h.rest d (fun j oj hoj _ => hx' j oj hoj), hE.rest d hx']
    have hwant := wanted_same (o := o) (ops := ops) hlooks
    have hexec : execOp a.eval o = execOp A.eval o := execOp_congr o (fun cs b => Region.noSelect_spec hsel i o cs b ho) (fun x hx => eval_same hlooks x hx)
    have hOb := hob i o ho
    have go : ∀ p' w', ((calls.idxOf? i = some p ∧ p' = p + 1) ∨ (calls.idxOf? i = none ∧ p' = p)) → W p' w' → wpAny P .any ops Q fuel (listed.setIfInBounds i true) (a.put o.dst (vs i)) w' := fun p' w' hp hw =>
      ih _ p' _ w' (by omega) (h.step hplan hE ho hun hp hlo hw) (hcl.step ho hwaits)
    unfold wpOp
    simp only [ho]
    rw [hwant]
    unfold ObU at hOb
    by_cases hw : Region.wanted o (yielded ops A.tmps) = true
    · rw [if_pos hw] at hOb ⊢
      refine Or.inl ?_
      unfold Oper.wp
      rw [hexec]
      cases hcall : calls.idxOf? i with
      | some q =>
        rw [hcall] at hOb
        have hqp : q = p := by
          have hcq : calls[q]? = some i := by
            obtain ⟨hql, hqe, _⟩ := List.idxOf?_eq_some_iff.1 hcall
            rw [List.getElem?_eq_getElem hql]
            simp_all
          have h1 := h.cs q i hcq
          have h2 : ¬ q < p := fun hlt => by
            have := h1.2 hlt
            rw [getD_false_of hun] at this
            cases this
          have h3 := hcalls q (List.getElem?_eq_some_iff.1 hcq).1
          simp only [hcq, Bool.and_eq_true, decide_eq_true_eq] at h3
          omega
        subst hqp
        rcases hOb w h.world with ⟨f, args, hrun, hcs⟩ | ⟨w', hrun, hw'⟩ | ⟨hd, w', hrun, hw'⟩
        · rw [hrun]
          simp only [Oper.upon]
          refine hcs.mono ?_
          rintro e w' ⟨rfl, hw'⟩
          exact go (q + 1) w' (Or.inl ⟨hcall, rfl⟩) hw'
        · rw [hrun]
          simp only [Oper.upon]
          exact go (q + 1) w' (Or.inl ⟨hcall, rfl⟩) hw'
        · rw [hrun]
          simp only [Oper.upon]
          have hg := go (q + 1) w' (Or.inl ⟨hcall, rfl⟩) hw'
          rw [hd] at hg ⊢
          exact hg
      | none =>
        rw [hcall] at hOb
        rw [hOb p w hlo hup h.world]
        simp only [Oper.upon]
        exact go p w (Or.inr ⟨hcall, rfl⟩) h.world
    · rw [if_neg hw] at hOb ⊢
      obtain ⟨hv, hn⟩ := hOb
      have := go p w (Or.inr ⟨hn, rfl⟩) h.world
      rwa [hv] at this

theorem obU_val {i : Nat} {o : Oper} (hw : Region.wanted o (yielded ops A.tmps) = true) (hc : calls.idxOf? i = none) (h : ∀ p w, lo.getD i 0 ≤ p → p ≤ hi.getD i calls.length → W p w → (execOp A.eval o).run P w = .ok (.value (vs i)) w) : ObU P W ops A vs calls lo hi i o := by
  unfold ObU
  rw [if_pos hw, hc]
  exact h
theorem obU_move {i : Nat} {o : Oper} (x : Operand) (hx : o.op = .move x) (hw : Region.wanted o (yielded ops A.tmps) = true) (hc : calls.idxOf? i = none) (h : A.eval x = vs i) : ObU P W ops A vs calls lo hi i o :=
  obU_val hw hc fun _ w _ _ _ => by
    unfold execOp
    rw [hx, ← h]
    rfl
theorem obU_skip {i : Nat} {o : Oper} (hw : Region.wanted o (yielded ops A.tmps) = false) (hc : calls.idxOf? i = none) (hv : vs i = undef) : ObU P W ops A vs calls lo hi i o := by
  unfold ObU
  rw [if_neg (by rw [hw]; exact Bool.false_ne_true)]
  exact ⟨hv, hc⟩
theorem obU_call {i q f : Nat} {o : Oper} {args : Array Value} (hw : Region.wanted o (yielded ops A.tmps) = true) (hc : calls.idxOf? i = some q) (hr : ∀ w, (execOp A.eval o).run P w = .ok (.enter f args) w)
    (h : ∀ w, W q w → Calls P f args w (fun e w' => e = .returned (vs i) ∧ W (q + 1) w')) : ObU P W ops A vs calls lo hi i o := by
  unfold ObU
  rw [if_pos hw, hc]
  exact fun w hw => Or.inl ⟨f, args, hr w, h w hw⟩
/-- An operation that makes memory, in its place among the calls. -/
theorem obU_make {i q : Nat} {o : Oper} (hw : Region.wanted o (yielded ops A.tmps) = true) (hc : calls.idxOf? i = some q) (h : ∀ w, W q w → ∃ w', (execOp A.eval o).run P w = .ok (.value (vs i)) w' ∧ W (q + 1) w') : ObU P W ops A vs calls lo hi i o := by
  unfold ObU
  rw [if_pos hw, hc]
  exact fun w hw => Or.inr (Or.inl (h w hw))
/-- A store, in its place among the calls. -/
theorem obU_store {i q : Nat} {o : Oper} (hd : o.dst = none) (hw : Region.wanted o (yielded ops A.tmps) = true) (hc : calls.idxOf? i = some q) (h : ∀ w, W q w → ∃ w', (execOp A.eval o).run P w = .ok .skip w' ∧ W (q + 1) w') : ObU P W ops A vs calls lo hi i o := by
  unfold ObU
  rw [if_pos hw, hc]
  exact fun w hw => Or.inr (Or.inr ⟨hd, h w hw⟩)
/-- The obligations, one behind the other. -/
def ObsU (P : Program) (W : Nat → World → Prop) (ops : Array Oper) (A : Act) (vs : Nat → Value) (calls lo hi : List Nat) : Nat → List Oper → Prop
  | _, [] => True
  | i, o :: rest => ObU P W ops A vs calls lo hi i o ∧ ObsU P W ops A vs calls lo hi (i + 1) rest
theorem obs_atU : ∀ (l : List Oper) (k : Nat), ObsU P W ops A vs calls lo hi k l → ∀ i o, l[i]? = some o → ObU P W ops A vs calls lo hi (k + i) o
  | [], _, _, i, o, h => by simp at h
  | x :: l, k, h, 0, o, e => by
    simp only [List.getElem?_cons_zero, Option.some.injEq] at e
    subst e
    exact h.1
  | x :: l, k, h, i + 1, o, e => by
    have := obs_atU l (k + 1) h.2 i o (by simpa using e)
    rwa [show k + 1 + i = k + (i + 1) from by omega] at this

theorem ObsU_of_ends {l : List Oper} (hplan : planB l.toArray calls lo a₀.tmps.size = true) (h : ∀ A, EndsAs l.toArray vs A a₀ → ObsU P W l.toArray A vs calls lo hi 0 l) : ObsU P W l.toArray (laid a₀ 0 l vs) vs calls lo hi 0 l :=
  h _ (laid_ends hplan)
/-- A region that draws its order, by its plan: W 0 behind the draw, W q behind q calls; what each operation leaves is told ahead. -/
theorem wp_region_upto {id : Nat} {l : List Oper} {w : World} (vs : Nat → Value) (calls lo hi : List Nat) (W : Nat → World → Prop) (hm : P.follows .mixedOrders = true) (hplan : planB l.toArray calls lo a₀.tmps.size = true) (hupper : upB l.toArray calls hi = true) (hw : W 0 { w with drawn := w.drawn + 1 })
    (hob : ObsU P W l.toArray (laid a₀ 0 l vs) vs calls lo hi 0 l) (hQ : ∀ w, W calls.length w → Q .normal (laid a₀ 0 l vs) w) : (Code.region id l.toArray true).wp P Q a₀ w := by
  refine wp_region_any hm (any_of_standsU hplan hupper (laid_ends hplan) (fun i o ho => ?_) hQ _ _ 0 a₀ _ ?_ ⟨by simp, ?_, ?_, Nat.zero_le _, ?_, ?_, rfl, rfl, hw⟩ ?_)
  · have := obs_atU l 0 hob i o (by simpa using ho)
    rwa [Nat.zero_add] at this
  · simp [Array.toList_replicate]
  · intro q c _
    have := none_yet l.toArray.size c
    rw [this]
    simp
  · intro j hj
    have := none_yet l.toArray.size j
    rw [this] at hj
    cases hj
  · intro j o d _ hj _
    have := none_yet l.toArray.size j
    rw [this] at hj
    cases hj
  · intro d _
    rfl

  · intro c oc _ hj
    have := none_yet l.toArray.size c
    rw [this] at hj
    cases hj

end
end Go.Proofs.Ytkmlnglmecjmeaa
