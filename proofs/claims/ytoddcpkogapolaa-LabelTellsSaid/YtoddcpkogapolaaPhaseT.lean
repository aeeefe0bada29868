/- A region that draws its order, whose head goes by a plan (Phase) and whose tail, each of which waits for all ahead of it, is walked in order. Of no program. Conditions: as the theorem names them. -/
import Derived.StillTail
import Derived.Test.YtoddcpkogapolaaPhase
namespace Go.Proofs.Ytoddcpkogapolaa
open Go

section
variable {P : Program} {ops : Array Oper} {Q : Exit → Act → World → Prop} {W : Nat → World → Prop} {A a₀ : Act} {vs : Nat → Value} {calls lo : List Nat} {n : Nat}

/-- The tail begins behind n operations. -/
def tailB (ops : Array Oper) (n : Nat) (calls : List Nat) : Bool :=
  decide (n < ops.size) && Region.sinkB .any ops n && Region.chainB .any ops n && Region.seqB .any ops (ops.size - n) n (Array.replicate n true ++ Array.replicate (ops.size - n) false) && calls.all fun c => decide (c < n)

/-- What the frame is at the head's end. -/
structure EndsAt (ops : Array Oper) (n : Nat) (vs : Nat → Value) (A a₀ : Act) : Prop where
  dst : ∀ (j : Nat) (o : Oper) (d : Nat), j < n → ops[j]? = some o → o.dst = some d → A.tmps[d]? = some (vs j)
  rest : ∀ d : Nat, (∀ (j : Nat) (o : Oper), j < n → ops[j]? = some o → o.dst ≠ some d) → A.tmps[d]? = a₀.tmps[d]?
  sz : A.tmps.size = a₀.tmps.size
  df : A.defers = a₀.defers

theorem Stands.stepT (hplan : planB ops calls lo a₀.tmps.size = true) (hE : EndsAt ops n vs A a₀) {listed : Array Bool} {p p' i : Nat} {a : Act} {w w' : World} {o : Oper} (h : Stands ops W A a₀ calls lo listed p a w) (hin : i < n)
    (hi : ops[i]? = some o) (hun : listed.getD i true = false) (hp : (calls.idxOf? i = some p ∧ p' = p + 1) ∨ (calls.idxOf? i = none ∧ p' = p)) (hlo : lo.getD i 0 ≤ p) (hw : W p' w') :
    Stands ops W A a₀ calls lo (listed.setIfInBounds i true) p' (a.put o.dst (vs i)) w' := by
  simp only [planB, Bool.and_eq_true, List.all_eq_true, List.mem_range] at hplan
  obtain ⟨⟨hsel, hops⟩, hcalls⟩ := hplan
  have hlt : i < listed.size := by
    rcases Nat.lt_or_ge i listed.size with h' | h'
    · exact h'
    · simp [Array.getElem?_eq_none h'] at hun
  have hthis : (listed.setIfInBounds i true).getD i false = true := by simp [hlt]
  have hnow : listed.getD i false = false := getD_false_of hun
  have hoi := hops i (Array.getElem?_eq_some_iff.1 hi).1
  simp only [hi, Bool.and_eq_true, List.all_eq_true, List.mem_range] at hoi
  obtain ⟨⟨⟨hord, hdst⟩, hothers⟩, _⟩ := hoi
  have hdsz : ∀ d, o.dst = some d → d < a.tmps.size := fun d hd => by
    rw [hd] at hdst
    rw [h.sz]
    simpa using hdst
  have hidx : ∀ q c, calls[q]? = some c → calls.idxOf? c = some q := fun q c hc => by
    have := hcalls q (List.getElem?_eq_some_iff.1 hc).1
    simp only [hc, Bool.and_eq_true, beq_iff_eq] at this
    exact this.2
  have hset : ∀ j, j ≠ i → (listed.setIfInBounds i true).getD j false = listed.getD j false := fun j e => getD_set_ne false (Ne.symm e)
  refine ⟨by simp [h.size], ?_, ?_, ?_, ?_, ?_, ?_, ?_, hw⟩
  · intro q c hc
    by_cases e : c = i
    · subst e
      rw [hthis]
      have hq := hidx q c hc
      rcases hp with ⟨h1, rfl⟩ | ⟨h1, rfl⟩
      · rw [h1] at hq
        injection hq with hq
        simp [hq]
      · rw [h1] at hq; cases hq
    · rw [hset c e, h.cs q c hc]
      rcases hp with ⟨h1, rfl⟩ | ⟨_, rfl⟩
      · constructor
        · intro; omega
        · intro hq
          have : q ≠ p := fun hqp => by
            subst hqp
            apply e
            have h3 : calls[q]? = some i := by
              have := List.idxOf?_eq_some_iff.1 h1
              obtain ⟨hql, hqe, _⟩ := this
              rw [List.getElem?_eq_getElem hql]
              simp_all
            rw [hc] at h3
            injection h3
          omega
      · exact Iff.rfl
  · intro j hj
    rcases getD_set_false hj with rfl | hj
    · unfold over
      rcases hp with ⟨h1, rfl⟩ | ⟨h1, rfl⟩
      · rw [h1]; exact Nat.le_refl _
      · rw [h1]; exact hlo
    · have := h.since j hj
      rcases hp with ⟨_, rfl⟩ | ⟨_, rfl⟩ <;> omega
  · rcases hp with ⟨h1, rfl⟩ | ⟨_, rfl⟩
    · have := List.idxOf?_eq_some_iff.1 h1
      obtain ⟨hql, _⟩ := this
      omega
    · exact h.le
  · intro j oj d hoj hj hd
    by_cases e : j = i
    · subst e
      rw [hi] at hoj
      injection hoj with hoj
      subst hoj
      rw [put_at hd (hdsz d hd), hE.dst j o d hin hi hd]
    · have hj' : listed.getD j false = true := by rw [← hset j e]; exact hj
      have hne : o.dst ≠ some d := by
        have := hothers j (Array.getElem?_eq_some_iff.1 hoj).1
        simp only [hoj, hd, Bool.and_eq_true, Bool.or_eq_true, beq_iff_eq, bne_iff_ne, ne_eq] at this
        exact this.2.resolve_left e
      rw [put_off hne]
      exact h.here j oj d hoj hj' hd
  · intro d hall
    have hne : o.dst ≠ some d := hall i o hi hthis
    rw [put_off hne]
    refine h.rest d fun j oj hoj hj => ?_
    by_cases e : j = i
    · subst e; rw [hnow] at hj; cases hj
    · exact hall j oj hoj (by rw [hset j e]; exact hj)
  · rw [put_size, h.sz]
  · rw [put_defers, h.df]

/-- Whatever comes up next. -/
theorem any_of_standsT (hplan : planB ops calls lo a₀.tmps.size = true) (htail : tailB ops n calls = true) (hE : EndsAt ops n vs A a₀) (hob : ∀ i o, i < n → ops[i]? = some o → Ob P W ops A vs calls lo i o)
    (hQ : ∀ w, W calls.length w → wpAny P .any ops Q (ops.size - n) (Array.replicate n true ++ Array.replicate (ops.size - n) false) A w) :
    ∀ (fuel : Nat) (listed : Array Bool) (p : Nat) (a : Act) (w : World), listed.toList.count false = fuel → HeadInv .any ops n listed → Stands ops W A a₀ calls lo listed p a w → wpAny P .any ops Q fuel listed a w := by
  have hplan' := hplan
  simp only [planB, Bool.and_eq_true, List.all_eq_true, List.mem_range] at hplan'
  obtain ⟨⟨hsel, hops⟩, hcalls⟩ := hplan'
  simp only [tailB, Bool.and_eq_true, decide_eq_true_eq] at htail
  obtain ⟨⟨⟨⟨hn, hsink⟩, hchain⟩, _⟩, hcn⟩ := htail
  -- the head is over
  have hover : ∀ (fuel : Nat) (listed : Array Bool) (p : Nat) (a : Act) (w : World), listed.toList.count false = fuel → HeadInv .any ops n listed → Stands ops W A a₀ calls lo listed p a w → (∀ i, i < n → listed.getD i false = true) → wpAny P .any ops Q fuel listed a w := by
    intro fuel listed p a w hc hi h hall
    have hl : listed = Array.replicate n true ++ Array.replicate (ops.size - n) false := by
      apply Array.ext
      · rw [hi.size]; simp; omega
      · intro i h1 h2
        by_cases hin : i < n
        · have := hall i hin
          rw [Array.getElem_append_left (by simpa using hin)]
          simpa [h1] using this
        · have := hi.tail i (by omega) (by rw [← hi.size]; exact h1)
          rw [Array.getElem_append_right (by simp; omega)]
          simpa [h1] using this
    have hf : fuel = ops.size - n := by
      rw [← hc, hl]
      simp [Array.toList_replicate, List.count_replicate]
    have ha : a = A := by
      have ht : a.tmps = A.tmps := by
        apply Array.ext_getElem?
        intro d
        by_cases hd : ∃ (j : Nat) (o : Oper), j < n ∧ ops[j]? = some o ∧ o.dst = some d
        · obtain ⟨j, o, hjn, ho, hd⟩ := hd
          exact h.here j o d ho (hall j hjn) hd
        · have hd' : ∀ (j : Nat) (o : Oper), j < n → ops[j]? = some o → o.dst ≠ some d := fun j o hj ho e => hd ⟨j, o, hj, ho, e⟩
          rw [h.rest d (fun j o ho hj => hd' j o (by
            rcases Nat.lt_or_ge j n with h' | h'
            · exact h'
            · have := getD_both (hi.tail j h' (Array.getElem?_eq_some_iff.1 ho).1)
              rw [this] at hj; cases hj) ho), hE.rest d hd']
      have hf : a.defers = A.defers := by rw [h.df, hE.df]
      cases a
      cases A
      simp only at ht hf
      rw [ht, hf]
    have hp : p = calls.length := by
      rcases Nat.lt_or_ge p calls.length with hlt | hge
      · have hc := List.getElem?_eq_getElem hlt
        have h2 := List.all_eq_true.1 hcn _ (List.getElem_mem hlt)
        have := (h.cs p _ hc).1 (hall _ (by simpa using h2))
        omega
      · have := h.le; omega
    subst ha hp hf
    rw [hl]
    exact hQ w h.world
  intro fuel
  induction fuel with
  | zero =>
    intro listed p a w hc hi h
    refine hover 0 listed p a w hc hi h fun i hin => ?_
    have hsz : i < listed.size := by rw [hi.size]; omega
    cases hb : listed.getD i false with
    | true => rfl
    | false =>
      have := unlisted_set (getD_in hsz hb)
      omega
  | succ fuel ih =>
    intro listed p a w hc hi h
    by_cases hall : ∀ i, i < n → listed.getD i false = true
    · exact hover _ listed p a w hc hi h hall
    · have hx : ∃ i, i < n ∧ listed.getD i false = false := by
        apply Classical.byContradiction
        intro hno
        exact hall fun i hin => by
          cases hb : listed.getD i false with
          | true => rfl
          | false => exact absurd ⟨i, hin, hb⟩ hno
      obtain ⟨i₀, hi₀, hb₀⟩ := hx
      have hsz₀ : i₀ < listed.size := by rw [hi.size]; omega
      have hnot := tail_waits hsink hchain hn hi _ i₀ rfl hi₀ (getD_in hsz₀ hb₀)
      -- something is ready: the least that is not there
      have hsome : ∃ i, i ∈ Region.ready .any ops listed := by
        apply Classical.byContradiction
        intro hno
        have hr : Region.ready .any ops listed = [] := List.eq_nil_iff_forall_not_mem.2 fun i hi => hno ⟨i, hi⟩
        have : ∀ i, i < ops.size → listed.getD i false = true := by
          intro i
          induction i using Nat.strongRecOn with
          | ind i ih2 =>
            intro hil
            have hsz : i < listed.size := by rw [hi.size]; exact hil
            cases hb : listed.getD i false with
            | true => rfl
            | false =>
              have hm : i ∈ Region.ready .any ops listed := by
                rw [mem_ready]
                refine ⟨by simpa [hsz] using hb, ops[i], Array.getElem?_eq_getElem hil, fun e he hbd => ?_⟩
                have hoi := hops i hil
                simp only [Array.getElem?_eq_getElem hil, Bool.and_eq_true, List.all_eq_true] at hoi
                have hel : e.on < i := by
                  have := hoi.1.1.1 e.on (List.mem_map.2 ⟨e, List.mem_filter.2 ⟨by simpa using he, hbd⟩, rfl⟩)
                  simpa using this
                exact ih2 e.on hel (by omega)
              rw [hr] at hm
              cases hm
        rw [this i₀ (by omega)] at hb₀
        cases hb₀
      refine ⟨fun hr => ?_, fun i hir => ?_⟩
      · obtain ⟨i, hm⟩ := hsome
        rw [hr] at hm; cases hm
      have hin : i < n := by
        rcases Nat.lt_or_ge i n with h' | h'
        · exact h'
        · exact absurd hir (hnot i h')
      obtain ⟨hun, o, ho, hall⟩ := mem_ready.1 hir
      have hi' : i < ops.size := (Array.getElem?_eq_some_iff.1 ho).1
      have hcnt := unlisted_set hun
      have hoi := hops i hi'
      simp only [ho, Bool.and_eq_true, List.all_eq_true, List.mem_range] at hoi
      obtain ⟨⟨⟨hord, hdst⟩, hothers⟩, hlow⟩ := hoi
      have hwaits : ∀ e, e ∈ waits o → listed.getD e false = true := fun e he => by
        obtain ⟨x, hx, rfl⟩ := List.mem_map.1 he
        obtain ⟨hx1, hx2⟩ := List.mem_filter.1 hx
        exact hall x (by simpa using hx1) hx2
      have hlo : lo.getD i 0 ≤ p := by
        rw [Bool.or_eq_true] at hlow
        rcases hlow with h0 | h0
        · rw [beq_iff_eq] at h0; omega
        · obtain ⟨e, he, hle⟩ := List.any_eq_true.1 h0
          have := h.since e (hwaits e he)
          simp only [decide_eq_true_eq] at hle
          omega
      have hlooks : ∀ d, d ∈ o.looksAt ops → a.tmps[d]? = A.tmps[d]? := fun d hd => by
        by_cases hx : ∃ (j : Nat) (oj : Oper), ops[j]? = some oj ∧ oj.dst = some d
        · obtain ⟨j, oj, hoj, hjd⟩ := hx
          have := hothers j (Array.getElem?_eq_some_iff.1 hoj).1
          simp only [hoj, hjd, Bool.and_eq_true, Bool.or_eq_true, Bool.not_eq_true'] at this
          have hin2 : (waits o).contains j = true := this.1.resolve_left (by simp [hd])
          exact h.here j oj d hoj (hwaits j (by simpa using hin2)) hjd
        · have hx' : ∀ (j : Nat) (oj : Oper), ops[j]? = some oj → oj.dst ≠ some d := fun j oj hoj e => hx ⟨j, oj, hoj, e⟩
          rw [h.rest d (fun j oj hoj _ => hx' j oj hoj), hE.rest d (fun j oj _ hoj => hx' j oj hoj)]
      have hwant := wanted_same (o := o) (ops := ops) hlooks
      have hexec : execOp a.eval o = execOp A.eval o := execOp_congr o (fun cs b => Region.noSelect_spec hsel i o cs b ho) (fun x hx => eval_same hlooks x hx)
      have hOb := hob i o hin ho
      have go : ∀ p' w', ((calls.idxOf? i = some p ∧ p' = p + 1) ∨ (calls.idxOf? i = none ∧ p' = p)) → W p' w' → wpAny P .any ops Q fuel (listed.setIfInBounds i true) (a.put o.dst (vs i)) w' := fun p' w' hp hw =>
        ih _ p' _ w' (by omega) (hi.set hir hin) (h.stepT hplan hE hin ho hun hp hlo hw)
      unfold wpOp
      simp only [ho]
      rw [hwant]
      unfold Ob at hOb
      by_cases hw : Region.wanted o (yielded ops A.tmps) = true
      · rw [if_pos hw] at hOb ⊢
        refine Or.inl ?_
        unfold Oper.wp
        rw [hexec]
        cases hcall : calls.idxOf? i with
        | some q =>
          rw [hcall] at hOb
          have hqp : q = p := by
            have hcq : calls[q]? = some i := by
              obtain ⟨hql, hqe, _⟩ := List.idxOf?_eq_some_iff.1 hcall
              rw [List.getElem?_eq_getElem hql]
              simp_all
            have h1 := h.cs q i hcq
            have h2 : ¬ q < p := fun hlt => by
              have := h1.2 hlt
              rw [getD_false_of hun] at this
              cases this
            have h3 := hcalls q (List.getElem?_eq_some_iff.1 hcq).1
            simp only [hcq, Bool.and_eq_true, decide_eq_true_eq] at h3
            omega
          subst hqp
          rcases hOb w h.world with ⟨f, args, hrun, hcs⟩ | ⟨w', hrun, hw'⟩ | ⟨hd, w', hrun, hw'⟩
          · rw [hrun]
            simp only [Oper.upon]
            refine hcs.mono ?_
            rintro e w' ⟨rfl, hw'⟩
            exact go (q + 1) w' (Or.inl ⟨hcall, rfl⟩) hw'
          · rw [hrun]
            simp only [Oper.upon]
            exact go (q + 1) w' (Or.inl ⟨hcall, rfl⟩) hw'
          · rw [hrun]
            simp only [Oper.upon]
            have hg := go (q + 1) w' (Or.inl ⟨hcall, rfl⟩) hw'
            rw [hd] at hg ⊢
            exact hg
        | none =>
          rw [hcall] at hOb
          rw [hOb p w hlo h.le h.world]
          simp only [Oper.upon]
          exact go p w (Or.inr ⟨hcall, rfl⟩) h.world
      · rw [if_neg hw] at hOb ⊢
        obtain ⟨hv, hnn⟩ := hOb
        have := go p w (Or.inr ⟨hnn, rfl⟩) h.world
        rwa [hv] at this

theorem laid_endsT {l t : List Oper} (hplan : planB (l ++ t).toArray calls lo a₀.tmps.size = true) : EndsAt (l ++ t).toArray l.length vs (laid a₀ 0 l vs) a₀ := by
  simp only [planB, Bool.and_eq_true, List.all_eq_true, List.mem_range] at hplan
  obtain ⟨⟨_, hops⟩, _⟩ := hplan
  refine ⟨fun j o d hjn ho hd => ?_, fun d h => ?_, laid_size vs l a₀ 0, laid_defers vs l a₀ 0⟩
  · have hj := (Array.getElem?_eq_some_iff.1 ho).1
    have h1 := hops j hj
    simp only [ho, Bool.and_eq_true, List.all_eq_true, List.mem_range] at h1
    obtain ⟨⟨⟨_, hdst⟩, hothers⟩, _⟩ := h1
    rw [hd] at hdst
    have hol : l[j]? = some o := by
      have : (l ++ t)[j]? = some o := by simpa using ho
      rwa [List.getElem?_append_left hjn] at this
    have := laid_at vs d l a₀ 0 j o hol hd (by simpa using hdst) (fun k x hx hk e => by
      have hkl := (List.getElem?_eq_some_iff.1 hx).1
      have hx' : (l ++ t).toArray[k]? = some x := by
        rw [List.getElem?_toArray, List.getElem?_append_left hkl]; exact hx
      have h2 := hothers k (by simp; omega)
      simp only [hx', e, Bool.and_eq_true, Bool.or_eq_true, beq_iff_eq, bne_iff_ne, ne_eq] at h2
      exact (h2.2.resolve_left hk) hd)
    rwa [Nat.zero_add] at this
  · refine laid_rest vs d l a₀ 0 fun o ho => ?_
    obtain ⟨j, hj⟩ := List.getElem?_of_mem ho
    have hjl := (List.getElem?_eq_some_iff.1 hj).1
    exact h j o hjl (by rw [List.getElem?_toArray, List.getElem?_append_left hjl]; exact hj)

/-- The obligations of the head, at a frame of which no more is known than what lies in it. -/
theorem Obs_of_endsT {l t : List Oper} (hplan : planB (l ++ t).toArray calls lo a₀.tmps.size = true) (h : ∀ A, EndsAt (l ++ t).toArray l.length vs A a₀ → Obs P W (l ++ t).toArray A vs calls lo 0 l) : Obs P W (l ++ t).toArray (laid a₀ 0 l vs) vs calls lo 0 l :=
  h _ (laid_endsT hplan)

/-- A region that draws its order: its head l by its plan, its tail t in order. -/
theorem wp_region_tail {id : Nat} (l t : List Oper) {w : World} (vs : Nat → Value) (calls lo : List Nat) (W : Nat → World → Prop) (hm : P.follows .mixedOrders = true) (hplan : planB (l ++ t).toArray calls lo a₀.tmps.size = true) (htail : tailB (l ++ t).toArray l.length calls = true) (hw : W 0 { w with drawn := w.drawn + 1 })
    (hob : Obs P W (l ++ t).toArray (laid a₀ 0 l vs) vs calls lo 0 l) (hQ : ∀ w, W calls.length w → wpList P (l ++ t).toArray Q t (laid a₀ 0 l vs) w) : (Code.region id (l ++ t).toArray true).wp P Q a₀ w := by
  have htail' := htail
  simp only [tailB, Bool.and_eq_true, decide_eq_true_eq] at htail'
  obtain ⟨⟨⟨⟨hn, _⟩, _⟩, hseq⟩, hcn⟩ := htail'
  have hsz : (l ++ t).toArray.size - l.length = t.length := by simp
  refine wp_region_any hm (any_of_standsT (vs := vs) hplan htail (laid_endsT hplan) (fun i o hin ho => ?_) (fun w' hw' => ?_) _ _ 0 a₀ _ ?_ ⟨by simp, ?_, ?_⟩ ⟨by simp, ?_, ?_, Nat.zero_le _, ?_, ?_, rfl, rfl, hw⟩)
  · have hol : l[i]? = some o := by
      have : (l ++ t)[i]? = some o := by simpa using ho
      rwa [List.getElem?_append_left hin] at this
    have := obs_at l 0 hob i o hol
    rwa [Nat.zero_add] at this
  · rw [hsz]
    refine wpAny_of_seq t l.length _ _ _ (fun j => ?_) ?_ (hQ w' hw')
    · rw [List.getElem?_toArray, List.getElem?_append_right (by omega), Nat.add_sub_cancel_left]
    · rw [hsz] at hseq
      exact hseq
  · simp [Array.toList_replicate]
  · intro j oj _ hl
    have := none_yet (l ++ t).toArray.size j
    rw [this] at hl
    cases hl
  · intro j h1 h2
    rw [Array.getD_eq_getD_getElem?, Array.getElem?_replicate, if_pos h2]
    rfl
  · intro q c _
    have := none_yet (l ++ t).toArray.size c
    rw [this]
    simp
  · intro j hj
    have := none_yet (l ++ t).toArray.size j
    rw [this] at hj
    cases hj
  · intro j o d _ hj _
    have := none_yet (l ++ t).toArray.size j
    rw [this] at hj
    cases hj
  · intro d _
    rfl

theorem want_isT (hE : EndsAt ops n vs A a₀) {o og : Oper} {g d : Nat} {b x : Bool} (hn : g < n) (hg : o.guard = some (g, b)) (ho : ops[g]? = some og) (hd : og.dst = some d) (hv : vs g = .bool x) : Region.wanted o (yielded ops A.tmps) = (x == b) := by
  have h1 := hE.dst g og d hn ho hd
  simp [Region.wanted, hg, yielded, ho, hd, h1, hv]
theorem want_undefT (hE : EndsAt ops n vs A a₀) {o og : Oper} {g d : Nat} {b : Bool} (hn : g < n) (hg : o.guard = some (g, b)) (ho : ops[g]? = some og) (hd : og.dst = some d) (hv : vs g = undef) : Region.wanted o (yielded ops A.tmps) = false := by
  have h1 := hE.dst g og d hn ho hd
  simp [Region.wanted, hg, yielded, ho, hd, h1, hv, undef]
theorem eval_dstT (hE : EndsAt ops n vs A a₀) {j d : Nat} {o : Oper} (hn : j < n) (ho : ops[j]? = some o) (hd : o.dst = some d) : A.eval (.tmp d) = vs j := by
  simp [Act.eval, hE.dst j o d hn ho hd]
theorem at_outT (hE : EndsAt ops n vs A a₀) {d : Nat} (h : (ops.all fun o => o.dst != some d) = true) : A.tmps[d]? = a₀.tmps[d]? :=
  hE.rest d (fun j o _ ho e => by
    have := Array.all_eq_true_iff_forall_mem.1 h o (Array.mem_of_getElem? ho)
    simp [e] at this)
theorem eval_outT (hE : EndsAt ops n vs A a₀) {d : Nat} (h : (ops.all fun o => o.dst != some d) = true) : A.eval (.tmp d) = a₀.eval (.tmp d) := by
  simp [Act.eval, at_outT hE h]

end
end Go.Proofs.Ytoddcpkogapolaa
