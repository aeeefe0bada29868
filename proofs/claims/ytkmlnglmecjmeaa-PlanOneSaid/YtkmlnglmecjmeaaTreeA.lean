/- Several texts in one: each part says what it proves, and under which conditions. -/
import Derived.Test.YtkmlnglmecjmeaaMemA
import Derived.Laws.AppendOwnNone
import Derived.Laws.AppendOwn
import Derived.WalkKit
import Derived.OwnWalkIn
import Derived.Deep.OwnRows
import Derived.BigFrame
import Derived.Deep.QuietTactic
import Derived.BigQuiet
import Derived.Lib.AppendZeros
import Derived.Lib.SliceRun

/- Slices of one's own whose elements are of several cells: how they read, and what an append leaves. Of no program. No condition but those named. -/
namespace Go.Proofs.Ytkmlnglmecjmeaa
open Go Go.RowKit
set_option linter.unusedVariables false

/-- The k-th cell of elements that all have s cells. -/
theorem flat_get {α : Type} {enc : α → List Value} {s : Nat} (hs : 0 < s) (hl : ∀ a, (enc a).length = s) : ∀ (xs : List α) (i : Nat) (h : i < xs.length) (j : Nat), j < s → (xs.flatMap enc)[i * s + j]? = (enc xs[i])[j]?
  | [], i, h, j, _ => absurd h (by simp)
  | x :: xs, 0, h, j, hj => by
    simp only [List.flatMap_cons, Nat.zero_mul, Nat.zero_add, List.getElem_cons_zero]
    rw [List.getElem?_append_left (by rw [hl]; omega)]
  | x :: xs, i + 1, h, j, hj => by
    have ih := flat_get hs hl xs i (by simpa using h) j hj
    simp only [List.flatMap_cons, List.getElem_cons_succ]
    rw [List.getElem?_append_right (by rw [hl, Nat.succ_mul]; omega), hl, show (i + 1) * s + j - s = i * s + j by rw [Nat.succ_mul]; omega]
    exact ih
theorem flat_len {α : Type} {enc : α → List Value} {s : Nat} (hl : ∀ a, (enc a).length = s) (xs : List α) : (xs.flatMap enc).length = xs.length * s := by
  induction xs with
  | nil => simp
  | cons x xs ih => simp [List.flatMap_cons, hl, ih, Nat.succ_mul]; omega

/-- A row of one's own reads as what lies in it. -/
theorem own_reads {α : Type} {enc : α → List Value} {s : Nat} {R : Rd α} (hR : ∀ n w a, R n w a (enc a)) (hs : 0 < s) (hl : ∀ a, (enc a).length = s) {w : World} {base : Nat} {e : TypeId} {v : Value} {xs : List α} (h : w.ownsRow base e s v xs.length (xs.flatMap enc)) : SliceOf s R w.heap.size w xs [v] := by
  rcases h.2 with ⟨hv, h0⟩ | ⟨g, cap, cur, hv, hb, hg, hc, hm, hz, ht⟩
  · have : xs = [] := List.eq_nil_of_length_eq_zero h0
    subst this hv
    exact ⟨none, 0, rfl, Nat.le_refl _, Nat.zero_le _, fun _ => rfl, fun h => absurd h (by simp)⟩
  · subst hv
    have hgl : g < w.heap.size := by
      rcases Nat.lt_or_ge g w.heap.size with h' | h'
      · exact h'
      · simp [Array.getElem?_eq_none h'] at hg
    refine ⟨some ⟨g, 0, none⟩, cap, rfl, hc, hm, (fun h => by cases h), fun hp => ⟨g, 0, rfl, hgl, fun i hi => ⟨enc xs[i], hl _, fun j hj => ?_, hR _ _ _⟩⟩⟩
    have e1 : w.cell? ⟨g, 0 + i * s + j, none⟩ = cur[0 + i * s + j]? := by simp [World.cell?, hg]
    rw [e1, ← flat_get hs hl xs i hi j hj, ← ht, Nat.zero_add]
    have hlt : i * s + j < xs.length * s := by
      have : (i + 1) * s ≤ xs.length * s := Nat.mul_le_mul_right s (by omega)
      rw [Nat.succ_mul] at this
      omega
    rw [List.getElem?_take_of_lt hlt]
    simp
/-- The cells that lie behind a slice. -/
theorem slice_news {α : Type} {enc : α → List Value} {s : Nat} {R : Rd α} (hR : ∀ n w a cs, R n w a cs → cs = enc a) (hs : 0 < s) (hl : ∀ a, (enc a).length = s) {n : Nat} {w : World} {xs : List α} {ad : Addr} {m c : Nat} (h : SliceOf s R n w xs [.slice (some ad) m c]) :
    m = xs.length ∧ c ≤ maxLen ∧ m ≤ c ∧ ∀ j u, (xs.flatMap enc)[j]? = some u → w.cell? (ad.add j) = some u := by
  obtain ⟨A, cap, e, h1, h2, h3, h4⟩ := h
  simp only [List.cons.injEq, Value.slice.injEq, and_true] at e
  obtain ⟨rfl, rfl, rfl⟩ := e
  refine ⟨rfl, h2, h1, fun j u hu => ?_⟩
  have hj : j < xs.length * s := by rw [← flat_len hl]; exact (List.getElem?_eq_some_iff.1 hu).1
  have hp : 0 < xs.length := by
    rcases Nat.eq_zero_or_pos xs.length with h0 | h0
    · rw [h0, Nat.zero_mul] at hj; omega
    · exact h0
  obtain ⟨b, off, hA, hb, hc⟩ := h4 hp
  have hA : ad = ⟨b, off, none⟩ := by injection hA
  subst hA
  have hi : j / s < xs.length := Nat.div_lt_of_lt_mul (by rw [Nat.mul_comm]; exact hj)
  obtain ⟨es, _, hce, hr⟩ := hc (j / s) hi
  have hr := hR _ _ _ _ hr
  subst hr
  have hjm : j % s < s := Nat.mod_lt _ hs
  have e2 : j / s * s + j % s = j := by rw [Nat.mul_comm]; exact Nat.div_add_mod j s
  have h5 := flat_get hs hl xs (j / s) hi (j % s) hjm
  rw [e2, hu] at h5
  have h6 := hce (j % s) hjm
  rw [← h5, show off + j / s * s + j % s = off + j by omega] at h6
  have e3 : (⟨b, off, none⟩ : Addr).add j = ⟨b, off + j, none⟩ := by
    unfold Addr.add
    by_cases hz : j = 0 <;> simp [hz]
  rw [e3]
  exact h6

/-- append onto a row of one's own, of a slice whatever it is. -/
theorem append_slice {P : Program} {α : Type} {enc : α → List Value} {s : Nat} {R : Rd α} (hR : ∀ n w a cs, R n w a cs → cs = enc a) (hs : 0 < s) (hl : ∀ a, (enc a).length = s) (h1c : ∀ a, ∀ u ∈ enc a, u.oneCell' = true)
    {t e : TypeId} {z : Value} {bytes : Nat} (ht : P.underlying t = some (.slice e)) (hinfo : (P.info? e).map (fun i => (i.zero, i.size, i.bytes)) = some (some z, s, bytes)) (hz : z.cells.size = s)
    {ops : Array Oper} {rest : List Oper} {o : Oper} {a : Act} {Q : Exit → Act → World → Prop} (w : World) (hw : Region.wanted o (yielded ops a.tmps) = true) (so x : Operand)
    (ho : o.op = .call { callee := .builtin .append, args := #[so, x], argTypes := #[t, t] })
    (base : Nat) (v : Value) (n : Nat) (ys : List Value) (hv : a.eval so = v) (hown : w.ownsRow base e s v n ys)
    (n₀ : Nat) (V : Value) (xs : List α) (hx : a.eval x = V) (hL : SliceOf s R n₀ w xs [V]) (h63 : n + xs.length ≤ maxLen) (hb : (n + xs.length) * bytes ≤ 140737488355328) (hbase : base ≤ w.heap.size)
    (h : ∀ v' w', w'.ownsRow base e s v' (n + xs.length) (ys ++ xs.flatMap enc) → w.grownBy w' v.ownBlock → wpList P ops Q rest (a.put o.dst v') w') : wpList P ops Q (o :: rest) a w := by
  obtain ⟨i0, hi, hz0, hz1, hz2⟩ := info_parts hinfo
  refine BigFrame.wpList_want hw fun K hK => ?_
  obtain ⟨A, cap, eV, g1, g2, g3, g4⟩ := id hL
  simp only [List.cons.injEq, and_true] at eV
  subst eV
  cases A with
  | none =>
    have hc := g3 rfl
    subst hc
    have hx0 : xs = [] := List.eq_nil_of_length_eq_zero (by omega)
    subst hx0
    have hrun := run_append_owned_none (P := P) (w := w) base t o.type e i0 s ht hi v n ys hown
    unfold Oper.wp
    simp [execOp, ho, resolve, invoke, builtin, hv, hx, hrun, Result.andThen]
    exact hK _ _ (h v w (by simpa using hown) (World.grownBy.refl w _))
  | some ad =>
    obtain ⟨_, _, _, hn⟩ := slice_news hR hs hl hL
    refine wp_append_own w so x t ho base e i0 z s bytes ht hi hz0 hz1 hz2 hz hs v n ys hv hown ad xs.length cap (xs.flatMap enc) hx (flat_len hl xs) hn ?_ h63 hb hbase ?_
    · intro u hu
      obtain ⟨y, _, hy⟩ := List.mem_flatMap.1 hu
      exact h1c y u hy
    · intro v' w' k1 k2 _
      exact hK _ _ (h v' w' k1 k2)

/-- What owning a row keeps, when nothing but new blocks came. -/
theorem owns_below {w w' : World} {base : Nat} {e : TypeId} {s : Nat} {v : Value} {n : Nat} {ys : List Value} (h : w.ownsRow base e s v n ys) (hb : Below w.heap.size w w') : w'.ownsRow base e s v n ys := by
  refine ⟨h.1, ?_⟩
  rcases h.2 with h1 | ⟨g, cap, cur, hv, hbg, hg, r⟩
  · exact .inl h1
  · have hgl : g < w.heap.size := by
      rcases Nat.lt_or_ge g w.heap.size with h' | h'
      · exact h'
      · simp [Array.getElem?_eq_none h'] at hg
    exact .inr ⟨g, cap, cur, hv, hbg, (hb.block g hgl).trans hg, r⟩
theorem owns_block {w w' : World} {base : Nat} {e : TypeId} {s : Nat} {v : Value} {n : Nat} {ys : List Value} (h : w.ownsRow base e s v n ys) (hb : ∀ g, v.ownBlock = some g → w'.heap[g]? = w.heap[g]?) : w'.ownsRow base e s v n ys := by
  refine ⟨h.1, ?_⟩
  rcases h.2 with h1 | ⟨g, cap, cur, hv, hbg, hg, r⟩
  · exact .inl h1
  · exact .inr ⟨g, cap, cur, hv, hbg, (hb g (by rw [hv]; rfl)).trans hg, r⟩
theorem owns_own {w : World} {base : Nat} {e : TypeId} {s : Nat} {v : Value} {n : Nat} {ys : List Value} (h : w.ownsRow base e s v n ys) : ∀ g, v.ownBlock = some g → base ≤ g ∧ g < w.heap.size := fun g hg => by
  rcases h.2 with ⟨h1, _⟩ | ⟨g', cap, cur, hv, hbg, hg', r⟩
  · subst h1; cases hg
  · subst hv
    have : g' = g := by simpa [Value.ownBlock] using hg
    subst this
    refine ⟨hbg, ?_⟩
    rcases Nat.lt_or_ge g' w.heap.size with h' | h'
    · exact h'
    · simp [Array.getElem?_eq_none h'] at hg'
/-- What an append onto a row of one's own leaves of the world below. -/
theorem grown_below {B : Nat} {w0 w w' : World} (h : Below B w0 w) {row : Option Nat} (hg : w.grownBy w' row) (hrow : ∀ k, row = some k → B ≤ k) (hB : B ≤ w.heap.size) : Below B w0 w' :=
  h.trans ⟨hg.os, hg.tape, hg.output, hg.size, fun k hk => hg.block k (by omega) (fun e => by have := hrow k e.symm; omega)⟩
/-- An empty row, made now. -/
theorem owns_empty (w : World) (t : TypeId) (s : Nat) {base : Nat} (hb : base ≤ w.heap.size) : (w.alloc (.cells #[] t)).ownsRow base t s (.slice (some ⟨w.heap.size, 0, none⟩) 0 0) 0 [] :=
  ⟨by simp, .inr ⟨w.heap.size, 0, #[], rfl, hb, heap_alloc_new w _, Nat.le_refl _, Nat.zero_le _, by simp, by simp⟩⟩
/-- Elements of a slice whose first cells are cut off, or last ones. -/
theorem slice_cut {α : Type} {s : Nat} {R : Rd α} {n : Nat} {w : World} {xs : List α} {A : Option Addr} {m c : Nat} (h : SliceOf s R n w xs [.slice A m c]) (i j : Nat) (hij : i ≤ j) (hj : j ≤ xs.length) : SliceOf s R n w ((xs.drop i).take (j - i)) [sliced A i j c s] := by
  obtain ⟨A', cap, e, h1, h2, h3, h4⟩ := h
  simp only [List.cons.injEq, Value.slice.injEq, and_true] at e
  obtain ⟨rfl, rfl, rfl⟩ := e
  have hlen : ((xs.drop i).take (j - i)).length = j - i := by simp; omega
  refine ⟨if c = i then A else A.map (·.add (i * s)), c - i, by rw [hlen]; rfl, by rw [hlen]; omega, by omega, fun hn => ?_, fun hp => ?_⟩
  · by_cases hc : c = i
    · omega
    · rw [if_neg hc] at hn
      cases A with
      | none => have := h3 rfl; omega
      | some a => cases hn
  · rw [hlen] at hp
    obtain ⟨b, off, rfl, hb, hc⟩ := h4 (by omega)
    have e3 : (⟨b, off, none⟩ : Addr).add (i * s) = ⟨b, off + i * s, none⟩ := by
      unfold Addr.add
      by_cases hz : i * s = 0 <;> simp [hz]
    refine ⟨b, off + i * s, by rw [if_neg (by omega)]; simp [e3], hb, fun k hk => ?_⟩
    obtain ⟨es, g1, g2, g3⟩ := hc (i + k) (by rw [hlen] at hk; omega)
    refine ⟨es, g1, fun q hq => ?_, ?_⟩
    · rw [← g2 q hq, Nat.add_mul]; congr 2; omega
    · simpa using g3

end Go.Proofs.Ytkmlnglmecjmeaa


/- Slices of spots; where parts end: lodge/tree's and the document's. Condition: the slice reads as spots. -/
namespace Go.Proofs.Ytkmlnglmecjmeaa
open Go.RowKit
set_option linter.unusedVariables false

abbrev spC (s : Sp) : List Value := [.bool s.1, .int .i64 s.2.1, .int .i64 s.2.2]
abbrev vS (s : Sp) : Value := .agg #[.bool s.1, .int .i64 s.2.1, .int .i64 s.2.2]
/-- Cells are a spot. -/
def IsS : Rd Sp := fun _ _ s cs => cs = spC s
theorem keeps_S : Keeps IsS := fun _ _ _ _ _ _ h _ _ => h
theorem opens_S : Opens Try.prog 56 IsS := fun enc w fuel cs x h => by
  obtain ⟨⟨f, m, c⟩, ha, hb, hc⟩ := opens_struct (R := Both 1 IsBool (Both 2 IsM Nought)) Try.underlying56 (by kernel_rfl) (opensF_cons rfl (by kernel_rfl) (opens_bool Try.underlying4) (opensF_cons rfl (by kernel_rfl) opens_M (opensF_nil 3))) enc w fuel cs x h
  refine ⟨(f, m.1, m.2), ?_⟩
  simp only [IsM, Nought] at hb hc
  match cs, ha, hb, hc with
  | [u, v, t], ha, hb, hc =>
    simp [IsBool] at ha hb
    show _ = _
    rw [ha, hb.1, hb.2]
/-- A slice of spots. -/
abbrev Spots : Rd (List Sp) := SliceOf 3 IsS
theorem keeps_spots : Keeps Spots := keeps_slice keeps_S
theorem opens_spots : Opens Try.prog 32 Spots := opens_slice Try.underlying32 (by kernel_rfl) (by decide) opens_S
theorem spots_at {n : Nat} {w : World} {xs : List Sp} {v : Value} (h : Spots n w xs [v]) :
    ∃ A cap, v = .slice A xs.length cap ∧ xs.length ≤ cap ∧ cap ≤ maxLen ∧ ∀ i, (hi : i < xs.length) → ∃ b off, A = some ⟨b, off, none⟩ ∧ b < n ∧ w.cell? ⟨b, off + i * 3, none⟩ = some (.bool xs[i].1) ∧ w.cell? ⟨b, off + i * 3 + 1, none⟩ = some (.int .i64 xs[i].2.1) ∧ w.cell? ⟨b, off + i * 3 + 2, none⟩ = some (.int .i64 xs[i].2.2) := by
  obtain ⟨A, cap, e, h1, h2, _, h3⟩ := h
  simp only [List.cons.injEq, and_true] at e
  refine ⟨A, cap, e, h1, h2, fun i hi => ?_⟩
  obtain ⟨b, off, rfl, hb, hc⟩ := h3 (by omega)
  obtain ⟨es, hl, hcell, hr⟩ := hc i hi
  have hr : es = _ := hr
  subst hr
  exact ⟨b, off, rfl, hb, hcell 0 (by omega), hcell 1 (by omega), hcell 2 (by omega)⟩
theorem fin_step (o i : Nat) (l : List Sp) (h : i < l.length) : fin o i (l.drop i) = if (if l[i].1 then o - 1 else o + 1) = 0 then ((i + 1 : Nat) : Int) else fin (if l[i].1 then o - 1 else o + 1) (i + 1) (l.drop (i + 1)) := by
  rw [List.drop_eq_getElem_cons h, fin]
theorem fin_off (o i : Nat) (l : List Sp) (h : l.length ≤ i) : fin o i (l.drop i) = -1 := by
  rw [List.drop_of_length_le h, fin]

set_option maxRecDepth 100000 in
set_option maxHeartbeats 4000000 in
theorem refEnd_any (v : Value) (xs : List Sp) (p : Int) (w : World) (h : Spots w.heap.size w xs [v]) (hn : xs.length ≤ 1000000) :
    Calls Try.prog 28 #[v, .int .i64 p] w fun e W' => e = .returned (.int .i64 (endI xs p)) ∧ w = W' := by
  obtain ⟨A, cap, rfl, hlc, hcm, hp⟩ := spots_at h
  have HP := Lib.hid hp
  have hcm2 : cap ≤ 9223372036854775807 := Nat.le_trans hcm (by decide)
  clear hp h hcm
  by_cases h0 : 0 ≤ p
  · obtain ⟨q, rfl⟩ := Int.eq_ofNat_of_zero_le h0
    have HE : Hid (endI xs ((q : Nat) : Int) = fin 1 q (xs.drop q)) := Lib.hid (by simp [endI])
    have hmx : max ((q : Nat) : Int) 0 = (q : Int) := by omega
    go_enter Try.func28, Try.ntmps28
    go_wp2_with fail
    clear hmx
    go_loop [5, 6] (fun o i => ∃ a k : Nat, q ≤ k ∧ (k ≤ xs.length ∨ k = q) ∧ 1 ≤ a ∧ a + q ≤ k + 1 ∧ o = .int .i64 a ∧ i = .int .i64 k ∧ Hid (fin 1 q (xs.drop q) = fin a k (xs.drop k))) (fun _ i => xs.length - (intOf i).toNat)
    case atStart => exact ⟨1, q, Nat.le_refl _, Or.inr rfl, Nat.le_refl _, by omega, rfl, rfl, Lib.hid rfl⟩
    case round =>
      obtain ⟨a, k, hqk, hkl, ha, hak, rfl, rfl, HF⟩ := hrel
      by_cases hlt : k < xs.length
      · have hd : decide (k < xs.length) = true := by simpa using hlt
        have hi : (k : Int) < (xs.length : Int) := by omega
        have hge : (0 : Int) ≤ (k : Int) := by omega
        obtain ⟨g, off, rfl, hbn, hc0, _, _⟩ := HP.out k hlt
        have HS := Lib.hid (fin_step a k xs hlt)
        obtain ⟨b, hb⟩ : ∃ b, xs[k].1 = b := ⟨_, rfl⟩
        have HB := Lib.hid hb
        rw [hb] at hc0
        clear hb
        cases b
        · have h1 : ¬ (a + 1 = 0) := by omega
          have h2 : (((a : Nat) : Int) + 1 == 0) = false := by simp; omega
          go_wp2
          go_round
          case rel => exact ⟨a + 1, k + 1, by omega, by omega, by omega, by omega, by go_num, by go_num, Lib.hid (by rw [HF.out, HS.out, HB.out]; simp)⟩
          case measure => simp [intOf]; omega
        · by_cases h1 : a = 1
          · subst h1
            go_wp2
            go_ret
            exact ⟨rint (by rw [HE.out, HF.out, HS.out, HB.out]; simp), rfl⟩
          · have h2 : (((a : Nat) : Int) - 1 == 0) = false := by simp; omega
            have h3 : ((a : Nat) : Int) - 1 = ((a - 1 : Nat) : Int) := by omega
            have H3 := Lib.hid h3
            clear h3
            go_wp2
            go_round
            case rel => exact ⟨a - 1, k + 1, by omega, by omega, by omega, by omega, by rw [H3.out], by go_num, Lib.hid (by rw [HF.out, HS.out, HB.out]; simp; omega)⟩
            case measure => simp [intOf]; omega
      · have hd : decide (k < xs.length) = false := by simpa using hlt
        go_wp2
        go_ret
        exact ⟨rint (by rw [HE.out, HF.out, fin_off _ _ _ (by omega)]), rfl⟩
  · have HE : Hid (endI xs p = -1) := Lib.hid (by simp [endI, h0])
    have hmx : max p 0 = 0 := by omega
    have h0' : decide (0 ≤ p) = false := by simpa using h0
    go_enter Try.func28, Try.ntmps28
    go_wp2_with fail
    clear hmx
    go_loop [5, 6] (fun o i => o = .int .i64 1 ∧ i = .int .i64 0) (fun _ i => 0)
    case atStart => exact ⟨rfl, rfl⟩
    case round =>
      obtain ⟨rfl, rfl⟩ := hrel
      by_cases hlt : 0 < xs.length
      · go_wp2
        go_ret
        exact ⟨rint HE.out.symm, rfl⟩
      · go_wp2
        go_ret
        exact ⟨rint HE.out.symm, rfl⟩

set_option maxRecDepth 100000 in
set_option maxHeartbeats 4000000 in
theorem end_any (v : Value) (xs : List Sp) (p : Int) (w : World) (h : Spots w.heap.size w xs [v]) (hn : xs.length ≤ 1000000) :
    Calls Try.prog 79 #[v, .int .i64 p] w fun e W' => e = .returned (.int .i64 (endI xs p)) ∧ Below w.heap.size w W' := by
  obtain ⟨A, cap, rfl, hlc, hcm, hp⟩ := spots_at h
  have hcm2 : cap ≤ 9223372036854775807 := Nat.le_trans hcm (by decide)
  by_cases h0 : 0 ≤ p
  · obtain ⟨q, rfl⟩ := Int.eq_ofNat_of_zero_le h0
    by_cases hq : q < xs.length
    · have HE : Hid (endI xs ((q : Nat) : Int) = fin 1 q (xs.drop q)) := Lib.hid (by simp [endI])
      have hS := slice_cut h q xs.length (by omega) (Nat.le_refl _)
      have hcut : sliced A q xs.length cap 3 = .slice (A.map (·.add (q * 3))) (xs.length - q) (cap - q) := by
        unfold sliced
        rw [if_neg (by omega)]
      rw [hcut] at hS
      have hl2 : ((xs.drop q).take (xs.length - q)) = xs.drop q := by rw [List.take_of_length_le (by simp)]
      rw [hl2] at hS
      obtain ⟨A', cap', e', hlc', hcm', hp'⟩ := spots_at hS
      have hrun : ∀ wx, (Instr.slice 32 (.slice A xs.length cap) (some (.int .i64 (q : Int))) none none).run Try.prog wx = .ok (.slice (A.map (·.add (q * 3))) (xs.length - q) (cap - q)) wx := fun wx => by
        rw [run_slice_l _ _ _ _ _ Try.underlying32 _ _ (by omega) (by omega)]
        rw [← hcut]
        simp [go_sem]
      rw [e'] at hrun
      have hy1 : (xs.drop q).length + q ≤ 1000000 := by simp; omega
      generalize xs.drop q = ys at *
      have HP := Lib.hid hp'
      have hcm3 : cap' ≤ 9223372036854775807 := Nat.le_trans hcm' (by decide)
      clear hp hp' h hS hcut hl2 e' hcm hcm'
      go_enter Try.func79, Try.ntmps79
      go_wp2_with fail
      clear hrun
      go_loopw [5, 20] (fun o i wr => ∃ a k : Nat, k ≤ ys.length ∧ 1 ≤ a ∧ a ≤ k + 1 ∧ o = .int .i64 a ∧ i = .int .i64 k ∧ Hid (fin 1 q ys = fin a (q + k) (ys.drop k)) ∧ Below w.heap.size w wr) (fun _ i _ => ys.length - (intOf i).toNat)
      case atStart => exact ⟨1, 0, Nat.zero_le _, Nat.le_refl _, by omega, rfl, rfl, Lib.hid rfl, Below.refl _ _⟩
      case round =>
        obtain ⟨a, k, hk, ha, hak, rfl, rfl, HF, B⟩ := hrel
        by_cases hlt : k < ys.length
        · have hd : decide (k < ys.length) = true := by simpa using hlt
          have hi : (k : Int) < (ys.length : Int) := by omega
          have hge : (0 : Int) ≤ (k : Int) := by omega
          obtain ⟨g, off, rfl, hbn, hc0, hc1, hc2⟩ := HP.out k hlt
          have HS : Hid (fin a (q + k) (ys.drop k) = if (if ys[k].1 then a - 1 else a + 1) = 0 then ((q + (k + 1) : Nat) : Int) else fin (if ys[k].1 then a - 1 else a + 1) (q + (k + 1)) (ys.drop (k + 1))) := Lib.hid (by rw [List.drop_eq_getElem_cons hlt, fin]; rfl)
          have k0 := (B.cell (p := ⟨g, off + k * 3, none⟩) hbn).trans hc0
          have k1 := (B.cell (p := ⟨g, off + k * 3 + 1, none⟩) hbn).trans hc1
          have k2 := (B.cell (p := ⟨g, off + k * 3 + 2, none⟩) hbn).trans hc2
          clear hc0 hc1 hc2
          obtain ⟨⟨b, x, y⟩, hb⟩ : ∃ b, ys[k] = b := ⟨_, rfl⟩
          have HB := Lib.hid hb
          rw [hb] at k0 k1 k2
          clear hb
          simp only at k0 k1 k2
          cases b
          · have h2 : (((a : Nat) : Int) + 1 == 0) = false := by simp; omega
            go_wp2
            go_roundw
            case rel => exact ⟨a + 1, k + 1, by omega, by omega, by omega, by go_num, by go_num, Lib.hid (by rw [HF.out, HS.out, HB.out]; simp), B.alloc B.size _⟩
            case measure => simp [intOf]; omega
          · by_cases h1 : a = 1
            · subst h1
              go_wp2
              go_ret
              exact ⟨rint (by rw [HE.out, HF.out, HS.out, HB.out]; simp [Int.add_assoc]), B.alloc B.size _⟩
            · have h2 : (((a : Nat) : Int) - 1 == 0) = false := by simp; omega
              have h3 : ((a : Nat) : Int) - 1 = ((a - 1 : Nat) : Int) := by omega
              have H3 := Lib.hid h3
              clear h3
              go_wp2
              go_roundw
              case rel => exact ⟨a - 1, k + 1, by omega, by omega, by omega, by rw [H3.out], by go_num, Lib.hid (by rw [HF.out, HS.out, HB.out]; simp; omega), B.alloc B.size _⟩
              case measure => simp [intOf]; omega
        · have hd : decide (k < ys.length) = false := by simpa using hlt
          go_wp2
          go_ret
          exact ⟨rint (by rw [HE.out, HF.out, List.drop_of_length_le (by omega), fin]), B⟩
    · have HE : Hid (endI xs ((q : Nat) : Int) = -1) := Lib.hid (by simp [endI]; exact fin_off _ _ _ (by omega))
      have hd : decide ((q : Int) ≥ (xs.length : Int)) = true := by simp; omega
      go_enter Try.func79, Try.ntmps79
      go_wp2
      go_ret
      exact ⟨rint HE.out.symm, Below.refl _ _⟩
  · have HE : Hid (endI xs p = -1) := Lib.hid (by simp [endI, h0])
    go_enter Try.func79, Try.ntmps79
    go_wp2
    go_ret
    exact ⟨rint HE.out.symm, Below.refl _ _⟩

end Go.Proofs.Ytkmlnglmecjmeaa


/- Leaves of spots, whether each may be, whether lists are the same; lodge/tree's and the document's. Condition: the slices read as spots (members), of at most a million. -/
namespace Go.Proofs.Ytkmlnglmecjmeaa
open Go.RowKit
set_option linter.unusedVariables false

abbrev mC (m : Int × Int) : List Value := [.int .i64 m.1, .int .i64 m.2]
theorem infoS : (Try.prog.info? 56).map (fun i => (i.zero, i.size, i.bytes)) = some (some (.agg #[.bool false, .int .i64 0, .int .i64 0]), 3, 24) := by kernel_rfl
theorem infoM : (Try.prog.info? 27).map (fun i => (i.zero, i.size, i.bytes)) = some (some (.agg #[.int .i64 0, .int .i64 0]), 2, 16) := by kernel_rfl
theorem oneS (a : Sp) : ∀ u ∈ spC a, u.oneCell' = true := by intro u hu; simp at hu; rcases hu with rfl | rfl | rfl <;> rfl
theorem oneM (a : Int × Int) : ∀ u ∈ mC a, u.oneCell' = true := by intro u hu; simp at hu; rcases hu with rfl | rfl <;> rfl
/-- append onto spots of one's own. -/
theorem append_spots {ops : Array Oper} {rest : List Oper} {o : Oper} {a : Act} {Q : Exit → Act → World → Prop} (w : World) (hw : Region.wanted o (yielded ops a.tmps) = true) (so x : Operand)
    (ho : o.op = .call { callee := .builtin .append, args := #[so, x], argTypes := #[32, 32] })
    (base : Nat) (v : Value) (n : Nat) (ys : List Value) (hv : a.eval so = v) (hown : w.ownsRow base 56 3 v n ys)
    (n₀ : Nat) (V : Value) (xs : List Sp) (hx : a.eval x = V) (hL : Spots n₀ w xs [V]) (hb : n + xs.length ≤ 4000000) (hbase : base ≤ w.heap.size)
    (h : ∀ v' w', w'.ownsRow base 56 3 v' (n + xs.length) (ys ++ xs.flatMap spC) → w.grownBy w' v.ownBlock → wpList Try.prog ops Q rest (a.put o.dst v') w') : wpList Try.prog ops Q (o :: rest) a w :=
  append_slice (enc := spC) (s := 3) (R := IsS) (fun _ _ _ _ h => h) (by decide) (fun _ => rfl) oneS Try.underlying32 infoS rfl w hw so x ho base v n ys hv hown n₀ V xs hx hL (Nat.le_trans hb (by decide)) (by omega) hbase h
/-- append onto members of one's own. -/
theorem append_mems {ops : Array Oper} {rest : List Oper} {o : Oper} {a : Act} {Q : Exit → Act → World → Prop} (w : World) (hw : Region.wanted o (yielded ops a.tmps) = true) (so x : Operand)
    (ho : o.op = .call { callee := .builtin .append, args := #[so, x], argTypes := #[22, 22] })
    (base : Nat) (v : Value) (n : Nat) (ys : List Value) (hv : a.eval so = v) (hown : w.ownsRow base 27 2 v n ys)
    (n₀ : Nat) (V : Value) (xs : List (Int × Int)) (hx : a.eval x = V) (hL : Mems n₀ w xs [V]) (hb : n + xs.length ≤ 4000000) (hbase : base ≤ w.heap.size)
    (h : ∀ v' w', w'.ownsRow base 27 2 v' (n + xs.length) (ys ++ xs.flatMap mC) → w.grownBy w' v.ownBlock → wpList Try.prog ops Q rest (a.put o.dst v') w') : wpList Try.prog ops Q (o :: rest) a w :=
  append_slice (enc := mC) (s := 2) (R := IsM) (fun _ _ _ _ h => h) (by decide) (fun _ => rfl) oneM Try.underlying22 infoM rfl w hw so x ho base v n ys hv hown n₀ V xs hx hL (Nat.le_trans hb (by decide)) (by omega) hbase h
theorem own_mems {w : World} {base : Nat} {v : Value} {xs : List (Int × Int)} (h : w.ownsRow base 27 2 v xs.length (xs.flatMap mC)) : Mems w.heap.size w xs [v] := own_reads (enc := mC) (s := 2) (R := IsM) (fun _ _ _ => rfl) (by decide) (fun _ => rfl) h
theorem own_spots {w : World} {base : Nat} {v : Value} {xs : List Sp} (h : w.ownsRow base 56 3 v xs.length (xs.flatMap spC)) : Spots w.heap.size w xs [v] := own_reads (enc := spC) (s := 3) (R := IsS) (fun _ _ _ => rfl) (by decide) (fun _ => rfl) h
/-- One element, laid by itself. -/
theorem one_mem (w : World) (a b : Int) (t : TypeId) (g : Nat) (hg : w.heap.size = g) : Mems (g + 1) (w.alloc (.cells #[.int .i64 a, .int .i64 b] t)) [(a, b)] [.slice (some ⟨g, 0, none⟩) 1 1] := by
  subst hg
  exact ⟨some ⟨w.heap.size, 0, none⟩, 1, rfl, Nat.le_refl _, by decide, (fun h => by cases h), fun _ => ⟨w.heap.size, 0, rfl, by omega, fun i hi => ⟨mC (a, b), rfl, fun j hj => by
    have : i = 0 := by simpa using hi
    subst this
    simp, by
    have : i = 0 := by simpa using hi
    subst this
    rfl⟩⟩⟩
theorem one_spot (w : World) (s : Sp) (t : TypeId) (g : Nat) (hg : w.heap.size = g) : Spots (g + 1) (w.alloc (.cells #[.bool s.1, .int .i64 s.2.1, .int .i64 s.2.2] t)) [s] [.slice (some ⟨g, 0, none⟩) 1 1] := by
  subst hg
  exact ⟨some ⟨w.heap.size, 0, none⟩, 1, rfl, Nat.le_refl _, by decide, (fun h => by cases h), fun _ => ⟨w.heap.size, 0, rfl, by omega, fun i hi => ⟨spC s, rfl, fun j hj => by
    have : i = 0 := by simpa using hi
    subst this
    simp, by
    have : i = 0 := by simpa using hi
    subst this
    rfl⟩⟩⟩
theorem lv_take_succ (xs : List Sp) (k : Nat) (h : k < xs.length) : lv (xs.take (k + 1)) = lv (xs.take k) ++ (if xs[k].1 then [xs[k].2] else []) := by
  rw [List.take_succ_eq_append_getElem h, lv_append]
  congr 1
  unfold lv
  cases hb : xs[k].1 <;> simp [hb]
theorem lv_take_le (xs : List Sp) (k : Nat) : (lv (xs.take k)).length ≤ k := by
  have h1 := lv_length_le (xs.take k)
  have h2 := List.length_take_le k xs
  omega

set_option maxRecDepth 100000 in
set_option maxHeartbeats 4000000 in
theorem refLeaves_own (v : Value) (xs : List Sp) (w : World) (h : Spots w.heap.size w xs [v]) (hn : xs.length ≤ 1000000) :
    Calls Try.prog 9 #[v] w fun e W' => ∃ v', e = .returned v' ∧ W'.ownsRow w.heap.size 27 2 v' (lv xs).length ((lv xs).flatMap mC) ∧ Below w.heap.size w W' := by
  obtain ⟨A, cap, rfl, hlc, hcm, hp⟩ := spots_at h
  have HP := Lib.hid hp
  have hcm2 : cap ≤ 9223372036854775807 := Nat.le_trans hcm (by decide)
  clear hp h hcm
  go_enter Try.func9, Try.ntmps9
  go_wp2_with fail
  go_loopw [3, 4] (fun u i wr => ∃ k : Nat, k ≤ xs.length ∧ i = .int .i64 k ∧ wr.ownsRow w.heap.size 27 2 u (lv (xs.take k)).length ((lv (xs.take k)).flatMap mC) ∧ Below w.heap.size w wr) (fun _ i _ => xs.length - (intOf i).toNat)
  case atStart => exact ⟨0, Nat.zero_le _, rfl, World.ownsRow_nil _ _ _ _, Below.refl _ _⟩
  case round =>
    obtain ⟨k, hk, rfl, hown, B⟩ := hrel
    by_cases hlt : k < xs.length
    · have hd : decide (k < xs.length) = true := by simpa using hlt
      have hi : (k : Int) < (xs.length : Int) := by omega
      have hge : (0 : Int) ≤ (k : Int) := by omega
      obtain ⟨g, off, rfl, hbn, hc0, hc1, hc2⟩ := HP.out k hlt
      have HS := Lib.hid (lv_take_succ xs k hlt)
      have k0 := (B.cell (p := ⟨g, off + k * 3, none⟩) hbn).trans hc0
      have k1 := (B.cell (p := ⟨g, off + k * 3 + 1, none⟩) hbn).trans hc1
      have k2 := (B.cell (p := ⟨g, off + k * 3 + 2, none⟩) hbn).trans hc2
      clear hc0 hc1 hc2
      obtain ⟨⟨b, x, y⟩, hb⟩ : ∃ b, xs[k] = b := ⟨_, rfl⟩
      have HB := Lib.hid hb
      rw [hb] at k0 k1 k2
      clear hb
      simp only at k0 k1 k2
      have hll := lv_take_le xs k
      cases b
      · go_wp2
        go_roundw
        case rel => exact ⟨k + 1, by omega, by go_num, by rw [HS.out, HB.out]; simpa using hown, B⟩
        case measure => simp [intOf]; omega
      · go_wp2_with (at_builtin; refine append_mems _ rfl _ _ rfl w.heap.size _ _ _ rfl (hown.alloc _) _ _ _ rfl (one_mem _ _ _ _ _ (by simp)) ?c1 ?c2 ?_)
        case c1 => simp; omega
        case c2 => have := B.size; simp; omega
        intro v' w' hown' hgr
        have B2 := (B.alloc B.size (.cells #[.int .i64 x, .int .i64 y] 27)).grown hgr (by have := B.size; simp; omega) (fun k hk => (hown.lt k hk).1)
        go_wp2
        go_roundw
        case rel => exact ⟨k + 1, by omega, by go_num, by rw [HS.out, HB.out]; simpa using hown', B2⟩
        case measure => simp [intOf]; omega
    · have hd : decide (k < xs.length) = false := by simpa using hlt
      have hkk : xs.take k = xs := List.take_of_length_le (by omega)
      rw [hkk] at hown
      obtain ⟨g', c', n', rfl⟩ : ∃ ao n' cap, _ = Value.slice ao n' cap := by
        rcases hown.2 with ⟨hv, _⟩ | ⟨g, cap, cur, hv, _⟩
        · exact ⟨_, _, _, hv⟩
        · exact ⟨_, _, _, hv⟩
      clear hkk
      go_wp2
      go_ret
      exact ⟨_, rfl, hown, B⟩
theorem refLeaves_any (v : Value) (xs : List Sp) (w : World) (h : Spots w.heap.size w xs [v]) (hn : xs.length ≤ 1000000) :
    Calls Try.prog 9 #[v] w fun e W' => ∃ v', e = .returned v' ∧ Mems W'.heap.size W' (lv xs) [v'] ∧ Below w.heap.size w W' :=
  (refLeaves_own v xs w h hn).mono fun e W' ⟨v', h1, h2, h3⟩ => ⟨v', h1, own_mems h2, h3⟩

set_option maxRecDepth 100000 in
set_option maxHeartbeats 4000000 in
theorem leaves_any (v : Value) (xs : List Sp) (w : World) (h : Spots w.heap.size w xs [v]) (hn : xs.length ≤ 1000000) :
    Calls Try.prog 20 #[v] w fun e W' => ∃ v', e = .returned v' ∧ Mems W'.heap.size W' (lv xs) [v'] ∧ Below w.heap.size w W' := by
  obtain ⟨A, cap, rfl, hlc, hcm, hp⟩ := spots_at h
  have HP := Lib.hid hp
  have hcm2 : cap ≤ 9223372036854775807 := Nat.le_trans hcm (by decide)
  clear hp h hcm
  go_enter Try.func20, Try.ntmps20
  go_wp2_with fail
  go_loopw [3, 8] (fun u i wr => ∃ k : Nat, k ≤ xs.length ∧ i = .int .i64 k ∧ wr.ownsRow w.heap.size 27 2 u (lv (xs.take k)).length ((lv (xs.take k)).flatMap mC) ∧ Below w.heap.size w wr) (fun _ i _ => xs.length - (intOf i).toNat)
  case atStart => exact ⟨0, Nat.zero_le _, rfl, World.ownsRow_nil _ _ _ _, Below.refl _ _⟩
  case round =>
    obtain ⟨k, hk, rfl, hown, B⟩ := hrel
    by_cases hlt : k < xs.length
    · have hd : decide (k < xs.length) = true := by simpa using hlt
      have hi : (k : Int) < (xs.length : Int) := by omega
      have hge : (0 : Int) ≤ (k : Int) := by omega
      obtain ⟨g, off, rfl, hbn, hc0, hc1, hc2⟩ := HP.out k hlt
      have k0 := (B.cell (p := ⟨g, off + k * 3, none⟩) hbn).trans hc0
      have k1 := (B.cell (p := ⟨g, off + k * 3 + 1, none⟩) hbn).trans hc1
      have k2 := (B.cell (p := ⟨g, off + k * 3 + 2, none⟩) hbn).trans hc2
      clear hc0 hc1 hc2
      obtain ⟨⟨b, x, y⟩, hb⟩ : ∃ b, xs[k] = b := ⟨_, rfl⟩
      have HB := Lib.hid hb
      rw [hb] at k0 k1 k2
      clear hb
      simp only at k0 k1 k2
      have HS := Lib.hid (lv_take_succ xs k hlt)
      have hll := lv_take_le xs k
      cases b
      · go_wp2
        go_roundw
        case rel => exact ⟨k + 1, by omega, by go_num, by rw [HS.out, HB.out]; simpa using hown.alloc _, B.alloc B.size _⟩
        case measure => simp [intOf]; omega
      · go_wp2_with (at_builtin; refine append_mems _ rfl _ _ rfl w.heap.size _ _ _ rfl ((hown.alloc _).alloc _) _ _ _ rfl (one_mem _ _ _ _ _ (by simp)) ?c1 ?c2 ?_)
        case c1 => simp; omega
        case c2 => have := B.size; simp; omega
        intro v' w' hown' hgr
        have B1 := B.alloc B.size (.cells #[.bool true, .int .i64 x, .int .i64 y] 56)
        have B2 := (B1.alloc B1.size (.cells #[.int .i64 x, .int .i64 y] 27)).grown hgr (by have := B.size; simp; omega) (fun k hk => (hown.lt k hk).1)
        go_wp2
        go_roundw
        case rel => exact ⟨k + 1, by omega, by go_num, by rw [HS.out, HB.out]; simpa using hown', B2⟩
        case measure => simp [intOf]; omega
    · have hd : decide (k < xs.length) = false := by simpa using hlt
      have hkk : xs.take k = xs := List.take_of_length_le (by omega)
      rw [hkk] at hown
      obtain ⟨g', c', n', rfl⟩ : ∃ ao n' cap, _ = Value.slice ao n' cap := by
        rcases hown.2 with ⟨hv, _⟩ | ⟨g, cap, cur, hv, _⟩
        · exact ⟨_, _, _, hv⟩
        · exact ⟨_, _, _, hv⟩
      clear hkk
      go_wp2
      go_ret
      exact ⟨_, rfl, own_mems hown, B⟩

theorem all_take_succ (xs : List Sp) (k : Nat) (h : k < xs.length) : (xs.take (k + 1)).all noWho = ((xs.take k).all noWho && noWho xs[k]) := by
  rw [List.take_succ_eq_append_getElem h, List.all_append]
  simp only [List.all_cons, List.all_nil, Bool.and_true]
theorem all_not (xs : List Sp) (k : Nat) (h : k < xs.length) (hb : noWho xs[k] = false) : xs.all noWho = false := by
  rw [List.all_eq_false]
  exact ⟨xs[k], List.getElem_mem h, by rw [hb]; simp⟩


set_option maxRecDepth 100000 in
set_option maxHeartbeats 4000000 in
theorem sameS_any (v u : Value) (xs ys : List Sp) (w : World) (h : Spots w.heap.size w xs [v]) (h' : Spots w.heap.size w ys [u]) (hn : xs.length ≤ 1000000) :
    Calls Try.prog 10 #[v, u] w fun e W' => e = .returned (.bool (decide (xs = ys))) ∧ Below w.heap.size w W' := by
  obtain ⟨A, cap, rfl, hlc, hcm, hp⟩ := spots_at h
  have HP := Lib.hid hp
  have hcm2 : cap ≤ 9223372036854775807 := Nat.le_trans hcm (by decide)
  clear hp h hcm
  obtain ⟨A', cap', rfl, hlc', hcm', hp'⟩ := spots_at h'
  have HP' := Lib.hid hp'
  have hcm3 : cap' ≤ 9223372036854775807 := Nat.le_trans hcm' (by decide)
  clear hp' h' hcm'
  by_cases hl : xs.length = ys.length
  · have HL := Lib.hid hl
    have hle : (xs.length : Int) = (ys.length : Int) := by omega
    go_enter Try.func10, Try.ntmps10
    go_wp2_with fail
    clear hl hle
    go_loopw [5] (fun i wr => ∃ k : Nat, k ≤ xs.length ∧ i = .int .i64 k ∧ Hid (xs.take k = ys.take k) ∧ Below w.heap.size w wr) (fun i _ => xs.length - (intOf i).toNat)
    case atStart => exact ⟨0, Nat.zero_le _, rfl, Lib.hid rfl, Below.refl _ _⟩
    case round =>
      obtain ⟨k, hk, rfl, HA, B⟩ := hrel
      by_cases hlt : k < xs.length
      · have hlt' : k < ys.length := by have := HL.out; omega
        have hd : decide (k < xs.length) = true := by simpa using hlt
        have hi : (k : Int) < (xs.length : Int) := by omega
        have hi' : (k : Int) < (ys.length : Int) := by omega
        have hge : (0 : Int) ≤ (k : Int) := by omega
        obtain ⟨g, off, rfl, hbn, hc0, hc1, hc2⟩ := HP.out k hlt
        obtain ⟨g', off', rfl, hbn', hc0', hc1', hc2'⟩ := HP'.out k hlt'
        have k0 := (B.cell (p := ⟨g, off + k * 3, none⟩) hbn).trans hc0
        have k1 := (B.cell (p := ⟨g, off + k * 3 + 1, none⟩) hbn).trans hc1
        have k2 := (B.cell (p := ⟨g, off + k * 3 + 2, none⟩) hbn).trans hc2
        have k0' := (B.cell (p := ⟨g', off' + k * 3, none⟩) hbn').trans hc0'
        have k1' := (B.cell (p := ⟨g', off' + k * 3 + 1, none⟩) hbn').trans hc1'
        have k2' := (B.cell (p := ⟨g', off' + k * 3 + 2, none⟩) hbn').trans hc2'
        clear hc0 hc1 hc2 hc0' hc1' hc2'
        have HX := Lib.hid (List.take_succ_eq_append_getElem hlt)
        have HY := Lib.hid (List.take_succ_eq_append_getElem hlt')
        have HD : Hid (¬ xs[k] = ys[k] → decide (xs = ys) = false) := Lib.hid fun hne => by
          rw [decide_eq_false_iff_not]
          intro e
          subst e
          exact hne rfl
        obtain ⟨⟨b, x, y⟩, hb⟩ : ∃ b, xs[k] = b := ⟨_, rfl⟩
        obtain ⟨⟨b', x', y'⟩, hb'⟩ : ∃ b, ys[k] = b := ⟨_, rfl⟩
        rw [hb] at k0 k1 k2
        rw [hb'] at k0' k1' k2'
        rw [hb, hb'] at HD
        have HB := Lib.hid hb
        have HB' := Lib.hid hb'
        clear hb hb'
        simp only at k0 k1 k2 k0' k1' k2'
        by_cases hne : (b, x, y) = (b', x', y')
        · obtain ⟨rfl, rfl, rfl⟩ : b = b' ∧ x = x' ∧ y = y' := by simpa using hne
          clear hne
          go_wp2_with fail
          go_quiet (fail)
          go_wp2
          go_roundw
          case rel => exact ⟨k + 1, by omega, by go_num, Lib.hid (by rw [HX.out, HY.out, HA.out, HB.out, HB'.out]), B.trans ⟨rfl, rfl, rfl, Nat.le_refl _, fun _ _ => rfl⟩⟩
          case measure => simp [intOf]; omega
        · have HE := Lib.hid (HD.out hne)
          have hne' : b = b' → x = x' → y = y' → False := fun e1 e2 e3 => hne (by rw [e1, e2, e3])
          clear hne
          by_cases e1 : b = b'
          · subst e1
            by_cases e2 : x = x'
            · subst e2
              have e3 : ¬ y = y' := fun e => hne' rfl rfl e
              clear hne'
              go_wp2_with fail
              go_quiet (fail)
              go_wp2
              go_ret
              exact ⟨rbool HE.out.symm, B.trans ⟨rfl, rfl, rfl, Nat.le_refl _, fun _ _ => rfl⟩⟩
            · clear hne'
              go_wp2_with fail
              go_quiet (fail)
              go_wp2
              go_ret
              exact ⟨rbool HE.out.symm, B.trans ⟨rfl, rfl, rfl, Nat.le_refl _, fun _ _ => rfl⟩⟩
          · clear hne'
            go_wp2_with fail
            go_quiet (fail)
            go_wp2
            go_ret
            exact ⟨rbool HE.out.symm, B.trans ⟨rfl, rfl, rfl, Nat.le_refl _, fun _ _ => rfl⟩⟩
      · have hd : decide (k < xs.length) = false := by simpa using hlt
        go_wp2
        go_ret
        exact ⟨rbool (by
          have := HA.out
          rw [List.take_of_length_le (by omega), List.take_of_length_le (by have := HL.out; omega)] at this
          exact (decide_eq_true this).symm), B⟩
  · have HE : Hid (decide (xs = ys) = false) := Lib.hid (by
      rw [decide_eq_false_iff_not]
      intro e
      exact hl (by rw [e]))
    go_enter Try.func10, Try.ntmps10
    go_wp2
    go_ret
    exact ⟨rbool HE.out.symm, Below.refl _ _⟩

end Go.Proofs.Ytkmlnglmecjmeaa


/- Trees joined and copied: slices.Clone, Grow, Concat at spots; Leaf and Join of lodge/tree, leaf of the law. Condition: the slices read as spots, of at most a million together. -/
namespace Go.Proofs.Ytkmlnglmecjmeaa
open Go Go.RowKit
set_option linter.unusedVariables false

set_option maxRecDepth 100000 in
set_option maxHeartbeats 4000000 in
theorem cloneS_any (v : Value) (xs : List Sp) (w : World) (h : Spots w.heap.size w xs [v]) (hn : xs.length ≤ 1000000) :
    Calls Try.prog 48 #[v] w fun e W' => ∃ v', e = .returned v' ∧ Spots W'.heap.size W' xs [v'] ∧ Below w.heap.size w W' := by
  have q22 : ∀ (w : World) (a : Option Addr) (n c n' c' : Nat), (binOp .eql 32 (.slice a n c) (.slice none n' c')).run Try.prog w = .ok (.bool a.isNone) w := fun w a n c n' c' => Lib.run_eql_slice_nil w _ _ a n c n' c' Try.underlying32
  have HM := Lib.hid h
  obtain ⟨A, cap, rfl, hlc, hcm, _⟩ := spots_at h
  have hcm2 : cap ≤ 9223372036854775807 := Nat.le_trans hcm (by decide)
  cases A with
  | none =>
    obtain ⟨_, _, e, _, _, h0, _⟩ := h
    simp only [List.cons.injEq, Value.slice.injEq, and_true] at e
    obtain ⟨rfl, _, rfl⟩ := e
    have hc := h0 rfl
    subst hc
    have hx : xs = [] := List.eq_nil_of_length_eq_zero (by omega)
    subst hx
    go_enter Try.func48, Try.ntmps48
    go_wp2
    go_ret
    exact ⟨_, rfl, own_spots (World.ownsRow_nil _ w.heap.size _ _), Below.refl _ _⟩
  | some ad =>
    clear h hcm
    go_enter Try.func48, Try.ntmps48
    go_wp2_with (at_builtin; refine append_spots _ rfl _ _ rfl w.heap.size _ _ _ rfl (owns_empty w 56 3 (Nat.le_refl _)) w.heap.size _ xs rfl (keeps_spots _ _ _ _ _ _ HM.out (below_new w _) (Nat.le_refl _)) ?c1 ?c2 ?_)
    case c1 => omega
    case c2 => simp
    intro v' w' hown' hgr
    have B2 := ((Below.refl w.heap.size w).alloc (Nat.le_refl _) (.cells #[] 56)).grown hgr (by simp) (by intro k hk; simp [Value.ownBlock] at hk; omega)
    go_wp2
    go_ret
    exact ⟨_, rfl, own_spots hown', B2⟩

set_option maxRecDepth 100000 in
set_option maxHeartbeats 4000000 in
theorem growS_nil (n : Nat) (w : World) (hn : n ≤ 1000000) :
    Calls Try.prog 83 #[.slice none 0 0, .int .i64 (n : Int)] w fun e W' => ∃ v', e = .returned v' ∧ W'.ownsRow w.heap.size 56 3 v' 0 [] ∧ Below w.heap.size w W' := by
  obtain ⟨i0, hi, hz0, hz1, hz2⟩ := info_parts infoS
  rcases Nat.eq_zero_or_pos n with rfl | hp
  · go_enter Try.func83, Try.ntmps83
    go_wp2
    go_ret
    exact ⟨_, rfl, World.ownsRow_nil _ _ _ _, Below.refl _ _⟩
  · have hneg : ¬ ((n : Int) < 0) := by omega
    have hpos : (0 : Int) < (n : Int) := by omega
    have hsub : (n : Int) - 0 = (n : Int) := by omega
    have hd : decide (0 < n) = true := decide_eq_true hp
    have happ := Lib.run_append_nil_zeros (P := Try.prog) w 32 3 32 56 i0 _ .i64 .i64 Try.underlying32 Try.underlying3 hi hz0 n hp (by rw [hz1]; omega) (by omega) (by rw [hz2]; omega)
    generalize hcap : grownCap w n 0 56 = cap2 at happ
    have hcapge : n ≤ cap2 := by rw [← hcap]; exact grownCap_ge w _ 0 56
    have hcaple : cap2 ≤ maxLen := by rw [← hcap]; exact grownCap_le_maxLen w _ 0 56 (by unfold maxLen; omega)
    generalize hZ : (Builtin.zeroCells (Value.agg #[.bool false, .int .i64 0, .int .i64 0]).cells n ++ Builtin.zeroCells (Value.agg #[.bool false, .int .i64 0, .int .i64 0]).cells (cap2 - n)) = Z at happ
    have hZs : Z.size = cap2 * 3 := by rw [← hZ]; simp [size_zeroCells, Value.cells]; omega
    have hcap0 : ¬ cap2 = 0 := by omega
    clear hcap hZ
    go_enter Try.func83, Try.ntmps83
    go_wp2_with (at_builtin; refine Lib.wpList_append_run _ rfl _ _ _ _ rfl _ _ rfl rfl _ _ happ ?_)
    go_wp2
    go_ret
    refine ⟨_, rfl, ⟨rfl, .inr ⟨w.heap.size, cap2, Z, ?_, Nat.le_refl _, heap_alloc_new w.drew _, Nat.zero_le _, hcaple, hZs, by simp⟩⟩, ?_⟩
    · simp
    · exact ⟨rfl, rfl, rfl, by simp, fun k hk => Below.heap_alloc w _ k hk⟩

/-- A slice of slices of spots. -/
abbrev Lists : Rd (List (List Sp)) := SliceOf 1 Spots
theorem keeps_lists : Keeps Lists := keeps_slice keeps_spots
theorem lists_at {n : Nat} {w : World} {xss : List (List Sp)} {v : Value} (h : Lists n w xss [v]) :
    ∃ A cap, v = .slice A xss.length cap ∧ xss.length ≤ cap ∧ cap ≤ maxLen ∧ ∀ i, (hi : i < xss.length) → ∃ b off u, A = some ⟨b, off, none⟩ ∧ b < n ∧ w.cell? ⟨b, off + i, none⟩ = some u ∧ Spots n w xss[i] [u] := by
  obtain ⟨A, cap, e, h1, h2, _, h3⟩ := h
  simp only [List.cons.injEq, and_true] at e
  refine ⟨A, cap, e, h1, h2, fun i hi => ?_⟩
  obtain ⟨b, off, rfl, hb, hc⟩ := h3 (by omega)
  obtain ⟨es, hl, hcell, hr⟩ := hc i hi
  match es, hl with
  | [u], _ => exact ⟨b, off, u, rfl, hb, by have := hcell 0 (by omega); simpa using this, hr⟩
/-- Literals of two slices, and of three. -/
theorem lists_two {n : Nat} {w : World} {a b : List Sp} {u v : Value} (t : TypeId) (ha : Spots n w a [u]) (hb : Spots n w b [v]) (hn : n ≤ w.heap.size) : Lists (w.heap.size + 1) (w.alloc (.cells #[u, v] t)) [a, b] [.slice (some ⟨w.heap.size, 0, none⟩) 2 2] := by
  have B := below_new w (.cells #[u, v] t)
  have ka := keeps_spots n (w.heap.size + 1) w _ a _ ha (B.mono hn) (by omega)
  have kb := keeps_spots n (w.heap.size + 1) w _ b _ hb (B.mono hn) (by omega)
  refine ⟨_, 2, rfl, Nat.le_refl _, by decide, (fun h => by cases h), fun _ => ⟨_, 0, rfl, by omega, fun i hi => ?_⟩⟩
  match i, hi with
  | 0, _ => exact ⟨[u], rfl, fun j hj => by have : j = 0 := by omega
                                            subst this; simp, ka⟩
  | 1, _ => exact ⟨[v], rfl, fun j hj => by have : j = 0 := by omega
                                            subst this; simp, kb⟩
theorem lists_three {n : Nat} {w : World} {a b c : List Sp} {u v x : Value} (t : TypeId) (ha : Spots n w a [u]) (hb : Spots n w b [v]) (hc : Spots n w c [x]) (hn : n ≤ w.heap.size) : Lists (w.heap.size + 1) (w.alloc (.cells #[u, v, x] t)) [a, b, c] [.slice (some ⟨w.heap.size, 0, none⟩) 3 3] := by
  have B := below_new w (.cells #[u, v, x] t)
  have ka := keeps_spots n (w.heap.size + 1) w _ a _ ha (B.mono hn) (by omega)
  have kb := keeps_spots n (w.heap.size + 1) w _ b _ hb (B.mono hn) (by omega)
  have kc := keeps_spots n (w.heap.size + 1) w _ c _ hc (B.mono hn) (by omega)
  refine ⟨_, 3, rfl, Nat.le_refl _, by decide, (fun h => by cases h), fun _ => ⟨_, 0, rfl, by omega, fun i hi => ?_⟩⟩
  match i, hi with
  | 0, _ => exact ⟨[u], rfl, fun j hj => by have : j = 0 := by omega
                                            subst this; simp, ka⟩
  | 1, _ => exact ⟨[v], rfl, fun j hj => by have : j = 0 := by omega
                                            subst this; simp, kb⟩
  | 2, _ => exact ⟨[x], rfl, fun j hj => by have : j = 0 := by omega
                                            subst this; simp, kc⟩
/-- How long they are together. -/
def tot (xss : List (List Sp)) : Nat := (xss.map List.length).sum
theorem tot_succ (xss : List (List Sp)) (k : Nat) (h : k < xss.length) : tot (xss.take (k + 1)) = tot (xss.take k) + xss[k].length := by
  unfold tot
  rw [List.take_succ_eq_append_getElem h, List.map_append, List.sum_append]
  simp only [List.map_cons, List.map_nil, List.sum_cons, List.sum_nil]
  omega
theorem tot_take (xss : List (List Sp)) (k : Nat) : tot (xss.take k) ≤ tot xss := by
  unfold tot
  conv => rhs; rw [← List.take_append_drop k xss, List.map_append, List.sum_append]
  omega
theorem flat_take_succ (xss : List (List Sp)) (k : Nat) (h : k < xss.length) : (xss.take (k + 1)).flatten = (xss.take k).flatten ++ xss[k] := by
  rw [List.take_succ_eq_append_getElem h, List.flatten_append]
  simp only [List.flatten_cons, List.flatten_nil, List.append_nil]
theorem tot_flat (xss : List (List Sp)) : xss.flatten.length = tot xss := by
  unfold tot
  rw [List.length_flatten]

set_option maxRecDepth 100000 in
set_option maxHeartbeats 8000000 in
theorem concatS_any (v : Value) (xss : List (List Sp)) (w : World) (h : Lists w.heap.size w xss [v]) (hn : xss.length ≤ 1000000) (ht : tot xss ≤ 1000000) :
    Calls Try.prog 66 #[v] w fun e W' => ∃ v', e = .returned v' ∧ Spots W'.heap.size W' xss.flatten [v'] ∧ Below w.heap.size w W' := by
  obtain ⟨A, cap, rfl, hlc, hcm, hp⟩ := lists_at h
  have HP := Lib.hid hp
  have hcm2 : cap ≤ 9223372036854775807 := Nat.le_trans hcm (by decide)
  clear hp h hcm
  go_enter Try.func66, Try.ntmps66
  go_wp2_with fail
  go_loop [3, 11] (fun s i => ∃ k : Nat, k ≤ xss.length ∧ s = .int .i64 (tot (xss.take k)) ∧ i = .int .i64 k) (fun _ i => xss.length - (intOf i).toNat)
  case atStart => exact ⟨0, Nat.zero_le _, rfl, rfl⟩
  case round =>
    obtain ⟨k, hk, rfl, rfl⟩ := hrel
    have hle := tot_take xss k
    by_cases hlt : k < xss.length
    · have hd : decide (k < xss.length) = true := by simpa using hlt
      have hi : (k : Int) < (xss.length : Int) := by omega
      have hge : (0 : Int) ≤ (k : Int) := by omega
      obtain ⟨g, off, u, rfl, hbn, hc0, hu⟩ := HP.out k hlt
      obtain ⟨A', cap', rfl, hlc', hcm', _⟩ := spots_at hu
      have hle2 := tot_take xss (k + 1)
      have hs := tot_succ xss k hlt
      have HT := Lib.hid hs
      have hsum : IntKind.i64.wrap ((tot (xss.take k) : Int) + (xss[k].length : Int)) = ((tot (xss.take k) + xss[k].length : Nat) : Int) := by rw [IntKind.wrap_i64]; omega
      have hneg : ¬ ((tot (xss.take k) : Int) + (xss[k].length : Int) < 0) := by omega
      clear hu
      go_wp2
      go_round
      case rel => exact ⟨k + 1, by omega, by rw [HT.out]; go_num, by go_num⟩
      case measure => simp [intOf]; omega
    · have hd : decide (k < xss.length) = false := by simpa using hlt
      have hkk : xss.take k = xss := List.take_of_length_le (by omega)
      rw [hkk]
      go_wp2_with fail
      refine (growS_nil (tot xss) w ht).mono ?_
      rintro e W1 ⟨v1, rfl, hown, B1⟩
      go_wp2_with fail
      go_loopw [6, 27] (fun u i wr => ∃ k : Nat, k ≤ xss.length ∧ i = .int .i64 k ∧ wr.ownsRow w.heap.size 56 3 u (tot (xss.take k)) ((xss.take k).flatten.flatMap spC) ∧ Below w.heap.size w wr) (fun _ i _ => xss.length - (intOf i).toNat)
      case atStart => exact ⟨0, Nat.zero_le _, rfl, hown, B1⟩
      case round =>
        obtain ⟨k, hk, rfl, hown, B⟩ := hrel
        have hle := tot_take xss k
        by_cases hlt : k < xss.length
        · have hd : decide (k < xss.length) = true := by simpa using hlt
          have hi : (k : Int) < (xss.length : Int) := by omega
          have hge : (0 : Int) ≤ (k : Int) := by omega
          obtain ⟨g, off, u, rfl, hbn, hc0, hu⟩ := HP.out k hlt
          have k0 := (B.cell (p := ⟨g, off + k, none⟩) hbn).trans hc0
          have hle2 := tot_take xss (k + 1)
          have hs := tot_succ xss k hlt
          have HT := Lib.hid hs
          have HU := Lib.hid (keeps_spots _ _ _ _ _ _ hu B B.size)
          have HF := Lib.hid (flat_take_succ xss k hlt)
          clear hu hc0
          go_wp2_with (at_builtin; refine append_spots _ rfl _ _ rfl w.heap.size _ _ _ rfl hown _ _ _ rfl HU.out ?c1 ?c2 ?_)
          case c1 => omega
          case c2 => exact B.size
          intro v' w' hown' hgr
          have B2 := B.grown hgr B.size (fun k hk => (hown.lt k hk).1)
          go_wp2
          go_roundw
          case rel => exact ⟨k + 1, by omega, by go_num, by rw [HT.out, HF.out, List.flatMap_append]; exact hown', B2⟩
          case measure => simp [intOf]; omega
        · have hd : decide (k < xss.length) = false := by simpa using hlt
          have hkk : xss.take k = xss := List.take_of_length_le (by omega)
          rw [hkk, ← tot_flat] at hown
          obtain ⟨g', c', n', rfl⟩ : ∃ ao n' cap, _ = Value.slice ao n' cap := by
            rcases hown.2 with ⟨hv, _⟩ | ⟨g, cap, cur, hv, _⟩
            · exact ⟨_, _, _, hv⟩
            · exact ⟨_, _, _, hv⟩
          clear hkk
          go_wp2
          go_ret
          exact ⟨_, rfl, own_spots hown, B⟩

end Go.Proofs.Ytkmlnglmecjmeaa
