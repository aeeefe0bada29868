/- A queue: a slice somewhere in a row of one's own, that is cut at the front and appended to. Of no program. No condition but those named. -/
import Derived.Test.YtoddcpkogapolaaOwn
import Derived.Deep.Upon
namespace Go.Proofs.Ytoddcpkogapolaa
open Go Go.RowKit
set_option linter.unusedVariables false

/-- A slice of one's own, wherever in its block it begins. -/
def Win (w : World) (base s : Nat) (v : Value) (n : Nat) (ys : List Value) : Prop :=
  ∃ g off cap, v = .slice (some ⟨g, off, none⟩) n cap ∧ base ≤ g ∧ g < w.heap.size ∧ n ≤ cap ∧ cap ≤ maxLen ∧ ys.length = n * s ∧ (∀ j, j < n * s → w.cell? ⟨g, off + j, none⟩ = ys[j]?) ∧
    ∀ j, j < cap * s → (w.cell? ⟨g, off + j, none⟩).isSome = true ∧ w.frozen? ⟨g, off + j, none⟩ = false
theorem win_own {w : World} {base s : Nat} {v : Value} {n : Nat} {ys : List Value} (h : Win w base s v n ys) : ∀ g, v.ownBlock = some g → base ≤ g ∧ g < w.heap.size := fun g hg => by
  obtain ⟨g', off, cap, rfl, h1, h2, _⟩ := h
  obtain rfl : g' = g := by simpa [Value.ownBlock] using hg
  exact ⟨h1, h2⟩
theorem win_block {w w' : World} {base s : Nat} {v : Value} {n : Nat} {ys : List Value} (h : Win w base s v n ys) (hs : w.heap.size ≤ w'.heap.size) (hb : ∀ g, v.ownBlock = some g → w'.heap[g]? = w.heap[g]?) : Win w' base s v n ys := by
  obtain ⟨g, off, cap, rfl, h1, h2, h3, h4, h5, h6, h7⟩ := h
  have e := hb g rfl
  exact ⟨g, off, cap, rfl, h1, Nat.lt_of_lt_of_le h2 hs, h3, h4, h5, fun j hj => (World.cell?_of_block (a := ⟨g, off + j, none⟩) e).trans (h6 j hj),
    fun j hj => ⟨by rw [World.cell?_of_block (a := ⟨g, off + j, none⟩) e]; exact (h7 j hj).1, (World.frozen?_of_block (a := ⟨g, off + j, none⟩) e).trans (h7 j hj).2⟩⟩
theorem win_below {w w' : World} {base s : Nat} {v : Value} {n : Nat} {ys : List Value} (h : Win w base s v n ys) (hb : Below w.heap.size w w') : Win w' base s v n ys :=
  win_block h hb.size fun g hg => hb.block g (win_own h g hg).2
/-- A row of one's own that is not nil. -/
theorem win_of_row {w : World} {base s g : Nat} {cur : Array Value} {e : TypeId} {n cap : Nat} (hg : w.heap[g]? = some (.cells cur e (0, 0))) (hb : base ≤ g) (hn : n ≤ cap) (hc : cap ≤ maxLen) (hz : cur.size = cap * s) : Win w base s (.slice (some ⟨g, 0, none⟩) n cap) n (cur.toList.take (n * s)) := by
  have hgl : g < w.heap.size := by
    rcases Nat.lt_or_ge g w.heap.size with h' | h'
    · exact h'
    · simp [Array.getElem?_eq_none h'] at hg
  have hle : n * s ≤ cap * s := Nat.mul_le_mul_right _ hn
  refine ⟨g, 0, cap, rfl, hb, hgl, hn, hc, by rw [List.length_take, Array.length_toList, hz]; omega, fun j hj => ?_, fun j hj => ⟨?_, ?_⟩⟩
  · simp only [World.cell?, hg, Nat.zero_add]
    rw [List.getElem?_take_of_lt hj]
    simp
  · simp only [World.cell?, hg, Nat.zero_add]
    rw [Array.getElem?_eq_getElem (by omega)]
    rfl
  · simp [World.frozen?, hg]
/-- It reads as what lies in it. -/
theorem win_reads {α : Type} {enc : α → List Value} {s : Nat} {R : Rd α} (hR : ∀ n w a, R n w a (enc a)) (hs : 0 < s) (hl : ∀ a, (enc a).length = s) {w : World} {base : Nat} {v : Value} {xs : List α} (h : Win w base s v xs.length (xs.flatMap enc)) : SliceOf s R w.heap.size w xs [v] := by
  obtain ⟨g, off, cap, rfl, h1, h2, h3, h4, h5, h6, h7⟩ := h
  refine ⟨some ⟨g, off, none⟩, cap, rfl, h3, h4, (fun h => by cases h), fun hp => ⟨g, off, rfl, h2, fun i hi => ⟨enc xs[i], hl _, fun j hj => ?_, hR _ _ _⟩⟩⟩
  have hlt : i * s + j < xs.length * s := by
    have : (i + 1) * s ≤ xs.length * s := Nat.mul_le_mul_right s (by omega)
    rw [Nat.succ_mul] at this
    omega
  rw [Nat.add_assoc, h6 _ hlt, flat_get hs hl xs i hi j hj]
/-- The first element cut off. -/
theorem win_cut {w : World} {base s : Nat} {A : Option Addr} {n m c : Nat} {ys : List Value} (h : Win w base s (.slice A (n + 1) c) m ys) : m = n + 1 ∧ 1 ≤ c ∧ Win w base s (sliced A 1 (n + 1) c s) n (ys.drop s) := by
  obtain ⟨g, off, cap, e, h1, h2, h3, h4, h5, h6, h7⟩ := h
  simp only [Value.slice.injEq] at e
  obtain ⟨rfl, rfl, rfl⟩ := e
  have hm : (n + 1) * s = n * s + s := Nat.succ_mul n s
  have hc : c * s = (c - 1) * s + s := by rw [← Nat.succ_mul]; congr 1; omega
  refine ⟨rfl, by omega, ?_⟩
  by_cases h0 : c = 1
  · obtain rfl : n = 0 := by omega
    subst h0
    refine ⟨g, off, 0, by simp [sliced], h1, h2, Nat.le_refl _, Nat.zero_le _, by simp [h5], by simp, by simp⟩
  · refine ⟨g, off + s, c - 1, ?_, h1, h2, by omega, by omega, by rw [List.length_drop, h5, hm]; omega, fun j hj => ?_, fun j hj => ?_⟩
    · unfold sliced
      rw [if_neg h0, Option.map_some, Nat.one_mul, Addr.add_lit]
      congr 1
    · rw [Nat.add_assoc, h6 _ (by omega), List.getElem?_drop]
    · rw [Nat.add_assoc]
      exact h7 _ (by omega)

theorem tape_setCells (b : Nat) : ∀ (vs : List Value) (o : Nat) (w : World), (w.setCells b o vs).tape = w.tape
  | [], _, _ => rfl
  | v :: r, o, w => by rw [World.setCells, tape_setCells b r]; rfl
theorem sizeOf_setCells (b : Nat) : ∀ (vs : List Value) (o : Nat) (w : World), (w.setCells b o vs).heap.size = w.heap.size
  | [], _, _ => rfl
  | v :: r, o, w => by rw [World.setCells, sizeOf_setCells b r]; simp
/-- append onto it. -/
theorem run_append_win {P : Program} (w : World) (base : Nat) (t ty e : TypeId) (i : TypeInfo) (z : Value) (ht : P.underlying t = some (.slice e)) (hi : P.info? e = some i) (hz : i.zero = some z) (hzs : z.cells.size = i.size)
    (v : Value) (n : Nat) (ys : List Value) (hown : Win w base i.size v n ys) (x : Value) (k : Nat) (news : List Value) (hs : Src P i.size t x k news w) (h63 : n + k ≤ maxLen) (hb : (n + k) * i.bytes ≤ 140737488355328) (hbase : base ≤ w.heap.size) :
    ∃ v' w', (Builtin.append_ #[t, t] ty #[v, x]).run P w = .ok v' w' ∧ Win w' base i.size v' (n + k) (ys ++ news) ∧ w.grownBy w' v.ownBlock := by
  obtain ⟨g, off, cap, rfl, h1, h2, h3, h4, h5, h6, h7⟩ := hown
  have hnl := hs.newsLen
  have hmax : maxLen = 9223372036854775807 := rfl
  by_cases hroom : n + k ≤ cap
  · have hrc : (n + k) * i.size ≤ cap * i.size := Nat.mul_le_mul_right _ hroom
    rw [Nat.add_mul] at hrc
    have hsome : ∀ j, j < news.length → (w.cell? ⟨g, off + n * i.size + j, none⟩).isSome = true := fun j hj => by
      rw [Nat.add_assoc]; exact (h7 _ (by omega)).1
    have hrun := run_append_room_src (P := P) w t t ty e i ht hi g off n cap x k news hs hroom hsome (fun j hj => by rw [Nat.add_assoc]; exact (h7 _ (by omega)).2)
    refine ⟨_, _, hrun, ⟨g, off, cap, rfl, h1, by rw [sizeOf_setCells]; exact h2, hroom, h4, by rw [List.length_append, h5, hnl, Nat.add_mul], fun j hj => ?_, fun j hj => ⟨?_, ?_⟩⟩, ⟨World.os_setCells .., tape_setCells .., World.output_setCells .., by rw [sizeOf_setCells]; exact Nat.le_refl _, fun q hq hne => ?_⟩⟩
    · rw [Nat.add_mul] at hj
      by_cases hjo : j < n * i.size
      · rw [World.cell?_setCells_out g _ _ _ _ (fun _ _ => Or.inl (by show off + j < off + n * i.size; omega)), List.getElem?_append_left (by omega)]
        exact h6 j hjo
      · have := World.cell?_setCells_in g news (off + n * i.size) w hsome (j - n * i.size) (by omega)
        rw [show off + n * i.size + (j - n * i.size) = off + j by omega] at this
        rw [this, List.getElem?_append_right (by omega), h5, List.getElem?_eq_getElem (by omega)]
    · by_cases hin : n * i.size ≤ j ∧ j < n * i.size + news.length
      · have := World.cell?_setCells_in g news (off + n * i.size) w hsome (j - n * i.size) (by omega)
        rw [show off + n * i.size + (j - n * i.size) = off + j by omega] at this
        rw [this]; rfl
      · rw [World.cell?_setCells_out g _ _ _ _ (fun _ _ => by show off + j < off + n * i.size ∨ off + n * i.size + news.length ≤ off + j; omega)]
        exact (h7 j hj).1
    · rw [World.frozen?_setCells]; exact (h7 j hj).2
    · exact World.heap_setCells_other w g _ _ hq (fun e' => hne (by rw [e']; rfl))
  · have hg : cap < n + k := by omega
    have hold : (Builtin.firstCells i.size n (.slice (some ⟨g, off, none⟩) n cap)).run P w.drew = .ok ys.toArray w.drew :=
      run_firstCells_some w.drew i.size n ⟨g, off, none⟩ n cap ys h5 (fun j u hu => by
        rw [Addr.add_lit]
        have hj : j < n * i.size := by rw [← h5]; exact (List.getElem?_eq_some_iff.1 hu).1
        exact (h6 j hj).trans hu)
    have hrun := run_append_grow_src (P := P) w t t ty e i z ht hi hz (some ⟨g, off, none⟩) n cap ys hold x k news hs hg (by omega) (growslice_fits hg hb)
    have hge := grownCap_ge w (n + k) cap e
    have hcm := grownCap_le_maxLen w (n + k) cap e h63
    have hL : (ys ++ news).length = (n + k) * i.size := by rw [List.length_append, h5, hnl, Nat.add_mul]
    have hsz : ((ys ++ news).toArray ++ Builtin.zeroCells z.cells (grownCap w (n + k) cap e - (n + k))).size = grownCap w (n + k) cap e * i.size := by
      rw [Array.size_append, List.size_toArray, hL, size_zeroCells, hzs, ← Nat.add_mul]
      congr 1
      omega
    refine ⟨_, _, hrun, ?_, ⟨rfl, rfl, rfl, by rw [World.alloc]; simp, fun q hq _ => Below.heap_alloc w.drew _ q hq⟩⟩
    have hnew := heap_alloc_new w.drew (.cells ((ys ++ news).toArray ++ Builtin.zeroCells z.cells (grownCap w (n + k) cap e - (n + k))) e)
    have hw := win_of_row (base := base) (s := i.size) (n := n + k) hnew hbase hge hcm hsz
    have et : ((ys ++ news).toArray ++ Builtin.zeroCells z.cells (grownCap w (n + k) cap e - (n + k))).toList.take ((n + k) * i.size) = ys ++ news := by
      rw [Array.toList_append, ← hL]
      exact List.take_left
    rw [et] at hw
    exact hw
/-- .. of a slice whatever it is, in a walk. -/
theorem append_win {P : Program} {α : Type} {enc : α → List Value} {s : Nat} {R : Rd α} (hR : ∀ n w a cs, R n w a cs → cs = enc a) (hs : 0 < s) (hl : ∀ a, (enc a).length = s) (h1c : ∀ a, ∀ u ∈ enc a, u.oneCell' = true)
    {t e : TypeId} {z : Value} {bytes : Nat} (ht : P.underlying t = some (.slice e)) (hinfo : (P.info? e).map (fun i => (i.zero, i.size, i.bytes)) = some (some z, s, bytes)) (hz : z.cells.size = s)
    {ops : Array Oper} {rest : List Oper} {o : Oper} {a : Act} {Q : Exit → Act → World → Prop} (w : World) (hw : Region.wanted o (yielded ops a.tmps) = true) (so x : Operand)
    (ho : o.op = .call { callee := .builtin .append, args := #[so, x], argTypes := #[t, t] })
    (base : Nat) (v : Value) (n : Nat) (ys : List Value) (hv : a.eval so = v) (hown : Win w base s v n ys)
    (n₀ : Nat) (V : Value) (xs : List α) (hx : a.eval x = V) (hL : SliceOf s R n₀ w xs [V]) (h63 : n + xs.length ≤ maxLen) (hb : (n + xs.length) * bytes ≤ 140737488355328) (hbase : base ≤ w.heap.size)
    (h : ∀ v' w', Win w' base s v' (n + xs.length) (ys ++ xs.flatMap enc) → w.grownBy w' v.ownBlock → wpList P ops Q rest (a.put o.dst v') w') : wpList P ops Q (o :: rest) a w := by
  obtain ⟨i0, hi, hz0, hz1, hz2⟩ := info_parts hinfo
  refine BigFrame.wpList_want hw fun K hK => ?_
  have hsrc : Src P s t V xs.length (xs.flatMap enc) w := by
    obtain ⟨A, cap, eV, g1, g2, g3, g4⟩ := id hL
    simp only [List.cons.injEq, and_true] at eV
    subst eV
    cases A with
    | none =>
      have hc := g3 rfl
      subst hc
      obtain rfl : xs = [] := List.eq_nil_of_length_eq_zero (by omega)
      exact Src.ofNil w ht 0
    | some ad =>
      obtain ⟨_, _, _, hn⟩ := slice_news hR hs hl hL
      refine Src.ofSlice w ht ad xs.length cap (xs.flatMap enc) (flat_len hl xs) hn ?_
      intro u hu
      obtain ⟨y, _, hy⟩ := List.mem_flatMap.1 hu
      exact h1c y u hy
  subst hz1
  subst hz2
  obtain ⟨v', w', hrun, k1, k2⟩ := run_append_win (P := P) w base t o.type e i0 z ht hi hz0 hz v n ys hown V xs.length (xs.flatMap enc) hsrc h63 hb hbase
  unfold Oper.wp
  simp [execOp, ho, resolve, invoke, builtin, hv, hx, hrun, Result.andThen]
  exact hK _ _ (h v' w' k1 k2)

end Go.Proofs.Ytoddcpkogapolaa
