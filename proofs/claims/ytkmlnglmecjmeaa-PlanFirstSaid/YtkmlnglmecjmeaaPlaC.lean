import Derived.Test.YtkmlnglmecjmeaaPlaB
import Derived.Test.YtkmlnglmecjmeaaGraC
import Derived.Test.YtkmlnglmecjmeaaPruC
/- Layer 15's Shape, Fresh, Members, as callers want them. Conditions: what the members tell may be (okFs). -/
namespace Go.Proofs.Ytkmlnglmecjmeaa
open Go Go.RowKit
set_option linter.unusedVariables false

/-- Two slices of one's own lie apart. -/
def Apart2 (p q : Value) : Prop := ∀ g, p.ownBlock = some g → q.ownBlock ≠ some g
theorem own_grown {w w' : World} {base : Nat} {e : TypeId} {s : Nat} {v : Value} {n : Nat} {ys : List Value} {row : Option Nat} (h : w.ownsRow base e s v n ys) (hg : w.grownBy w' row) (hne : ∀ g, v.ownBlock = some g → row ≠ some g) : w'.ownsRow base e s v n ys :=
  owns_block h fun g hv => hg.block g (owns_own h g hv).2 (fun e => hne g hv e.symm)
theorem Apart2.left {w : World} {base : Nat} {e : TypeId} {s : Nat} {p p' q : Value} {n : Nat} {ys : List Value} (h : Apart2 p q) (hq : w.ownsRow base e s q n ys) (hl : p'.ownBlock = p.ownBlock ∨ p'.ownBlock = some w.heap.size) : Apart2 p' q := by
  intro g hg hqg
  rcases hl with hl | hl
  · rw [hl] at hg
    exact h g hg hqg
  · rw [hl] at hg
    have := (owns_own hq g hqg).2
    simp only [Option.some.injEq] at hg
    omega
theorem append_headsN {ops : Array Oper} {rest : List Oper} {o : Oper} {a : Act} {Q : Exit → Act → World → Prop} (w : World) (hw : Region.wanted o (yielded ops a.tmps) = true) (so x : Operand)
    (ho : o.op = .call { callee := .builtin .append, args := #[so, x], argTypes := #[49, 49] })
    (base : Nat) (v : Value) (n : Nat) (ys : List Value) (hv : a.eval so = v) (hown : w.ownsRow base 32 1 v n ys)
    (n₀ : Nat) (V : Value) (xs : List Hd) (hx : a.eval x = V) (hL : Heads n₀ w xs [V]) (hb : n + xs.length ≤ 4000000) (hbase : base ≤ w.heap.size)
    (h : ∀ v' w', w'.ownsRow base 32 1 v' (n + xs.length) (ys ++ xs.flatMap hC) → w.grownBy w' v.ownBlock → (v'.ownBlock = v.ownBlock ∨ v'.ownBlock = some w.heap.size) → wpList Try.prog ops Q rest (a.put o.dst v') w') : wpList Try.prog ops Q (o :: rest) a w :=
  append_new (enc := hC) (s := 1) (R := IsH) (fun _ _ _ _ h => h) (by decide) (fun _ => rfl) oneH Try.underlying49 infoH rfl w hw so x ho base v n ys hv hown n₀ V xs hx hL (Nat.le_trans hb (by decide)) (by omega) hbase h
/-- A leaf's head, laid by itself, apart from the slice p. -/
def LeafAt (p : Value) : Nat → World → Hd → Int × Int → Prop := fun _ w h m => ∃ H, h = (some ⟨H, 0, none⟩, 1, 1) ∧ Box w H [.bool true, .int .i64 m.1, .int .i64 m.2] ∧ p.ownBlock ≠ some H
theorem LeafAt.spots {p : Value} {n : Nat} {w : World} {h : Hd} {m : Int × Int} (hl : LeafAt p n w h m) : Spots w.heap.size w (spo (leafO m)) [.slice h.1 h.2.1 h.2.2] := by
  obtain ⟨H, rfl, b, -⟩ := hl
  refine ⟨some ⟨H, 0, none⟩, 1, rfl, Nat.le_refl _, by decide, (fun h => by cases h), fun _ => ⟨H, 0, rfl, b.lt, fun i hi => ?_⟩⟩
  have : i = 0 := by simpa [spo, leafO, flat] using hi
  subst this
  refine ⟨spC (true, m.1, m.2), rfl, fun j hj => ?_, rfl⟩
  have hj3 : j = 0 ∨ j = 1 ∨ j = 2 := by omega
  rcases hj3 with rfl | rfl | rfl
  · simpa using b.c 0 _ rfl
  · simpa using b.c 1 _ rfl
  · simpa using b.c 2 _ rfl
theorem leaves_keep {p : Value} {w w' : World} {hs : List Hd} {xs : List (Int × Int)} (h : Pairs (LeafAt p) 0 w hs xs) (hb : ∀ g, p.ownBlock ≠ some g → g < w.heap.size → w'.heap[g]? = w.heap[g]?) : Pairs (LeafAt p) 0 w' hs xs :=
  ⟨h.1, fun i a x h1 h2 => by
    obtain ⟨H, e, b, hn⟩ := h.2 i a x h1 h2
    exact ⟨H, e, b.keep (hb H hn b.lt), hn⟩⟩
theorem leaves_turn {p p' : Value} {w : World} {hs : List Hd} {xs : List (Int × Int)} (h : Pairs (LeafAt p) 0 w hs xs) (hl : p'.ownBlock = p.ownBlock ∨ p'.ownBlock = some w.heap.size) : Pairs (LeafAt p') 0 w hs xs :=
  ⟨h.1, fun i a x h1 h2 => by
    obtain ⟨H, e, b, hn⟩ := h.2 i a x h1 h2
    refine ⟨H, e, b, fun e2 => ?_⟩
    rcases hl with hl | hl
    · exact hn (hl ▸ e2)
    · rw [hl] at e2
      have := b.lt
      simp only [Option.some.injEq] at e2
      omega⟩
theorem leaves_each {p : Value} {w : World} {hs : List Hd} {xs : List (Int × Int)} (h : Pairs (LeafAt p) 0 w hs xs) : Each w.heap.size w hs (xs.map leafO) :=
  ⟨by rw [List.length_map]; exact h.1, fun i a x h1 h2 => by
    rw [List.getElem?_map] at h2
    cases hx : xs[i]? with
    | none => rw [hx] at h2; cases h2
    | some m =>
      rw [hx] at h2
      simp only [Option.map_some, Option.some.injEq] at h2
      subst h2
      exact (h.2 i a m h1 hx).spots⟩
theorem leafOwn_any (a b : Int) (w : World) : Calls Try.prog 22 #[vM a b] w fun e W' => ∃ H, e = .returned (.slice (some ⟨H, 0, none⟩) 1 1) ∧ w.heap.size ≤ H ∧ Box W' H [.bool true, .int .i64 a, .int .i64 b] ∧ Below w.heap.size w W' := by
  go_enter Try.func22, Try.ntmps22
  go_wp2
  go_ret
  exact ⟨_, rfl, by omega, by
    have := Box.new (w.alloc (.cells #[.int .i64 a, .int .i64 b] 27)) [.bool true, .int .i64 a, .int .i64 b] 56
    rwa [World.size_alloc] at this, below_new2 w _ _⟩
theorem grp_reads {fs : List Fl} {K : Int × Int × Int} {t : Tr} {w W1 : World} {kl : Lit} {v1 : Value} (h1 : oneKey fs K t) (hG : Grp w W1 kl t (keyedO fs) v1) (B : Below w.heap.size w W1) :
    ∃ (M : Nat) (A : Option Addr) (c : Nat), v1 = .slice A M c ∧ (groupsO fs).length = M ∧ M ≤ 1 ∧ ∀ j, j < M → j = 0 ∧ groupsO fs = [keepO ((keyedO fs).map (·.who)) (some t)] ∧ keyedO fs ≠ [] ∧ ∃ (gg : Nat) (tA : Option Addr) (tN tK : Nat) (wA : Option Addr) (wN wK : Nat), A = some ⟨gg, 0, none⟩ ∧ gg < W1.heap.size ∧ W1.cell? ⟨gg, 0, none⟩ = some (.slice tA tN tK) ∧ W1.cell? ⟨gg, 1, none⟩ = some (.slice wA wN wK) ∧ Spots W1.heap.size W1 (spo (some t)) [.slice tA tN tK] ∧ Mems W1.heap.size W1 ((keyedO fs).map (·.who)) [.slice wA wN wK] := by
  have hg := groups_one h1
  rcases hG with ⟨hk, rfl, -⟩ | ⟨hk, gg, cap, tA, tN, tK, wv, rfl, h2, h3, h4, bg, how, -, -, hsp⟩
  · rw [if_pos hk] at hg
    exact ⟨0, none, 0, rfl, by rw [hg]; rfl, by decide, fun j hj => absurd hj (Nat.not_lt_zero _)⟩
  · rw [if_neg hk] at hg
    obtain ⟨wA, wN, wK, rfl⟩ : ∃ wA wN wK, wv = Value.slice wA wN wK := by
      rcases how.2 with ⟨hv, _⟩ | ⟨_, _, _, hv, _⟩
      · exact ⟨_, _, _, hv⟩
      · exact ⟨_, _, _, hv⟩
    exact ⟨1, some ⟨gg, 0, none⟩, cap, rfl, by rw [hg]; rfl, Nat.le_refl _, fun j hj => ⟨by omega, hg, hk, gg, tA, tN, tK, wA, wN, wK, rfl, bg.lt, bg.c 0 _ rfl, bg.c 1 _ rfl, keeps_spots _ _ _ _ _ _ hsp B B.size, own_mems how⟩⟩
theorem filter_snoc (p : Int × Int → Bool) (ms : List (Int × Int)) (k : Nat) (h : k < ms.length) : (ms.take (k + 1)).filter p = (ms.take k).filter p ++ if p ms[k] = true then [ms[k]] else [] := by
  rw [List.take_succ_eq_append_getElem h, List.filter_append, List.filter_cons, List.filter_nil]

theorem pMembers_any (v : Value) (hs : List FH) (fs : List Fl) (w : World) (hH : FHs w.heap.size w hs [v]) (hE : EachF w.heap.size w hs fs) (hk : okFs fs) :
    Calls Try.prog 11 #[v] w fun e W' => ∃ v', e = .returned v' ∧ Mems W'.heap.size W' (membersO fs) [v'] ∧ Below w.heap.size w W' :=
  (membersP_any v hs fs w hH hE (by have := hk.2.2.1; omega) hk.2.1).mono fun _ _ ⟨v', h1, h2, h3, _⟩ => ⟨v', h1, h2, h3⟩
theorem pFresh_any (v u : Value) (hs : List FH) (fs : List Fl) (ot : Option Tr) (w : World) (hH : FHs w.heap.size w hs [v]) (hE : EachF w.heap.size w hs fs) (hk : okFs fs) (hS : Spots w.heap.size w (spo ot) [u]) (ho : okT (spo ot) = true) :
    Calls Try.prog 12 #[v, u] w fun e W' => ∃ v', e = .returned v' ∧ Mems W'.heap.size W' (freshO fs (lvO ot)) [v'] ∧ Below w.heap.size w W' :=
  freshP_any v u hs fs ot w hH hE (by have := hk.2.2.1; omega) hS (by have := spo_short ho; omega)
/-- Nothing that was there turned, but p5's own block. -/
def Turned (p5 : Value) (w5 w : World) : Prop := ∀ g, g < w5.heap.size → p5.ownBlock ≠ some g → w.heap[g]? = w5.heap[g]?
/-- p lies where p5 lay, or behind n. -/
def FromOr (p5 p : Value) (n : Nat) : Prop := p.ownBlock = p5.ownBlock ∨ ∀ g, p.ownBlock = some g → n ≤ g
theorem Turned.next {p5 : Value} {w5 w w' : World} (h : Turned p5 w5 w) (hb : Below w.heap.size w w') (hs : w5.heap.size ≤ w.heap.size) : Turned p5 w5 w' :=
  fun g hg hn => (hb.block g (Nat.lt_of_lt_of_le hg hs)).trans (h g hg hn)
theorem Turned.grown {p5 p : Value} {w5 w w' : World} (h : Turned p5 w5 w) (hg : w.grownBy w' p.ownBlock) (hf : FromOr p5 p w5.heap.size) (hs : w5.heap.size ≤ w.heap.size) : Turned p5 w5 w' :=
  fun g hl hn => (hg.block g (Nat.lt_of_lt_of_le hl hs) (fun e => by
    rcases hf with hf | hf
    · exact hn (hf ▸ e.symm)
    · have := hf g e.symm
      omega)).trans (h g hl hn)
theorem FromOr.turn {p5 p p' : Value} {n m : Nat} (h : FromOr p5 p n) (hl : p'.ownBlock = p.ownBlock ∨ p'.ownBlock = some m) (hm : n ≤ m) : FromOr p5 p' n := by
  rcases hl with hl | hl
  · rcases h with h | h
    · exact .inl (hl.trans h)
    · exact .inr fun g hg => h g (hl ▸ hg)
  · refine .inr fun g hg => ?_
    rw [hl] at hg
    simp only [Option.some.injEq] at hg
    omega
theorem cell_of {w w' : World} {g : Nat} (h : w'.heap[g]? = w.heap[g]?) (o : Nat) : w'.cell? ⟨g, o, none⟩ = w.cell? ⟨g, o, none⟩ := by simp only [World.cell?, h]
theorem leaves_next {p p' : Value} {w w' : World} {hs : List Hd} {xs : List (Int × Int)} (h : Pairs (LeafAt p) 0 w hs xs) (hb : ∀ g, p.ownBlock ≠ some g → g < w.heap.size → w'.heap[g]? = w.heap[g]?) (hl : p'.ownBlock = p.ownBlock ∨ p'.ownBlock = some w.heap.size) : Pairs (LeafAt p') 0 w' hs xs :=
  ⟨h.1, fun i a x h1 h2 => by
    obtain ⟨H, e, b, hn⟩ := h.2 i a x h1 h2
    obtain ⟨H2, e2, _, hn2⟩ := (leaves_turn h hl).2 i a x h1 h2
    have : H2 = H := by
      rw [e] at e2
      simpa using e2.symm
    subst this
    exact ⟨H2, e, b.keep (hb H2 hn b.lt), hn2⟩⟩
set_option maxRecDepth 100000 in
set_option maxHeartbeats 16000000 in
theorem pShape_any (v : Value) (hs : List FH) (fs : List Fl) (w : World) (hH : FHs w.heap.size w hs [v]) (hE : EachF w.heap.size w hs fs) (hk : okFs fs) :
    Calls Try.prog 8 #[v] w fun e W' => ∃ v', e = .returned v' ∧ Spots W'.heap.size W' (spo (shapeO fs)) [v'] ∧ Below w.heap.size w W' := by
  obtain ⟨hF, hnd, hn, K, t, h1⟩ := id hk
  have HSF := Lib.hid (shape_facts hk h1)
  have HB := Lib.hid (byId_any v hs fs K t w hH hE (by omega) hF h1)
  have HM := Lib.hid (fun (W : World) (B : Below w.heap.size w W) => membersP_any v hs fs W (keeps_fhs _ _ _ _ _ _ hH B B.size) (hE.keep B B.size) (by omega) hnd)
  have HT : Hid (keyedO fs ≠ [] → okT (spo (some t)) = true ∧ ((keyedO fs).map (·.who)).length ≤ 1000) := Lib.hid (fun hne => by
    obtain ⟨g, hg⟩ := List.exists_mem_of_ne_nil _ hne
    obtain ⟨g1, g2⟩ := List.mem_filter.1 hg
    have ho := (hF g g1).2.2.2.1
    rw [(h1 g g1 (of_decide_eq_true g2)).2] at ho
    refine ⟨ho, ?_⟩
    rw [List.length_map]
    exact Nat.le_trans (List.length_filter_le _ _) (by omega))
  have HML : Hid ((membersO fs).length ≤ 11) := Lib.hid (by rw [membersO_sort, (sortM_perm hnd).length_eq, List.length_map]; exact hn)
  have HBE : Hid ((membersO fs).filter (fun m => decide (m ∉ allO (groupsO fs))) = besideO fs) := Lib.hid (by rw [membersO_sort]; rfl)
  have HAL : Hid ((allO (groupsO fs)).length ≤ 60) := Lib.hid (by have := HSF.out.2.2.2.1; rw [allO_append, List.length_append] at this; omega)
  have HGO := Lib.hid h1
  obtain ⟨hA, hc, hm, rfl⟩ := fhs_some hH
  clear hH hE hk hF hnd hn h1
  go_enter Try.func8, Try.ntmps8
  go_wp2_with fail
  refine HB.out.mono ?_
  rintro e W1 ⟨v1, kl, rfl, hG, B⟩
  obtain ⟨M, vA, vc, rfl, hM, hM1, hgc⟩ := grp_reads HGO.out hG B
  have HGC := Lib.hid hgc
  have HMM := Lib.hid hM
  clear hG hgc hM HB HGO
  go_wp2_with fail
  go_loopw [3, 4, 13] (fun pv qv i wr => ∃ (j : Nat) (wq : World) (hd : List Hd) (n0 : Nat), wq = wr ∧ j ≤ M ∧ i = .int .i64 (j : Int) ∧ (j = 0 → pv = .slice none 0 0 ∧ qv = .slice none 0 0) ∧ W1.heap.size ≤ n0 ∧ n0 ≤ wr.heap.size ∧ wr.ownsRow n0 32 1 pv hd.length (hd.flatMap hC) ∧ Each n0 wr hd ((groupsO fs).take j) ∧ wr.ownsRow W1.heap.size 27 2 qv (allO ((groupsO fs).take j)).length ((allO ((groupsO fs).take j)).flatMap mC) ∧ Apart2 pv qv ∧ Below W1.heap.size W1 wr) (fun _ _ i _ => M - (intOf i).toNat)
  case atStart => exact ⟨0, _, [], W1.heap.size, rfl, Nat.zero_le _, rfl, fun _ => ⟨rfl, rfl⟩, Nat.le_refl _, Nat.le_refl _, World.ownsRow_nil _ _ _ _, Each.nil _ _, World.ownsRow_nil _ _ _ _, (fun g hg => nomatch hg), Below.refl _ _⟩
  case round =>
    obtain ⟨j, wz, hd, n0, rfl, hj, rfl, hnil, hn0, hn1, hp, hE, hq, hap, Bz⟩ := hrel
    by_cases hlt : j < M
    · clear HM HML HBE HAL HSF
      have hdd : decide (j < M) = true := decide_eq_true hlt
      have hi : (j : Int) < (M : Int) := by omega
      have hge : (0 : Int) ≤ (j : Int) := by omega
      obtain ⟨hj0, hgr1, hkn, gg, tA, tN, tK, wA, wN, wK, rfl, hgn, c0, c1, hsp, hms⟩ := HGC.out j hlt
      have HPN := Lib.hid (hnil hj0)
      have k0 : wz.cell? ⟨gg, j * 2, none⟩ = some (.slice tA tN tK) := (Bz.cell (p := ⟨gg, j * 2, none⟩) hgn).trans (by rw [hj0]; exact c0)
      have k1 : wz.cell? ⟨gg, j * 2 + 1, none⟩ = some (.slice wA wN wK) := (Bz.cell (p := ⟨gg, j * 2 + 1, none⟩) hgn).trans (by rw [hj0]; exact c1)
      obtain ⟨ws, hws⟩ : ∃ ws, (keyedO fs).map (·.who) = ws := ⟨_, rfl⟩
      have hwl := (HT.out hkn).2
      rw [hws] at hgr1 hms hwl
      have HSN : Hid ((groupsO fs).take (j + 1) = [keepO ws (some t)]) := Lib.hid (by rw [hj0, hgr1]; rfl)
      have HSP := Lib.hid (keeps_spots _ _ _ _ _ _ hsp Bz Bz.size)
      have HMS := Lib.hid (keeps_mems _ _ _ _ _ _ hms Bz Bz.size)
      have HOK := Lib.hid (And.intro (HT.out hkn).1 hwl)
      have hsz := Bz.size
      clear hp hE hq hap hnil hn0 hn1 hj0 hgr1 hkn c0 c1 hsp hms hwl hws HGC HMM HT hgn
      go_wp2_with fail
      obtain ⟨W2, hW2, b6, B2⟩ : ∃ W2, wz.alloc (.cells #[.slice tA tN tK, .slice wA wN wK] 53) = W2 ∧ Box W2 wz.heap.size [.slice tA tN tK, .slice wA wN wK] ∧ Below wz.heap.size wz W2 := ⟨_, rfl, Box.new wz _ _, below_new _ _⟩
      rw [hW2]
      have HO := Lib.hid (pOnly_any _ _ (some t) ws W2 (keeps_spots _ _ _ _ _ _ HSP.out B2 B2.size) (keeps_mems _ _ _ _ _ _ HMS.out B2 B2.size) HOK.out.1 HOK.out.2)
      have BB := Bz.trans (B2.mono Bz.size)
      have HXO : Hid (okT (spo (keepO ws (some t))) = true) := Lib.hid (okT_keep HOK.out.1 _)
      clear hW2 k0 k1 HSP HMS HOK b6 B2 Bz hsz
      refine HO.out.mono ?_
      rintro e W3 ⟨v7, rfl, hv7, hb⟩
      replace BB := BB.trans (hb.mono BB.size)
      obtain ⟨x, hx⟩ : ∃ x, keepO ws (some t) = x := ⟨_, rfl⟩
      rw [hx] at hv7 HXO HSN
      obtain ⟨lA, lK, rfl, -⟩ := spots_at hv7
      have HX := Lib.hid hv7
      have hxl := spo_short HXO.out
      clear hb hv7 hx HO
      go_wp2_with (at_builtin; refine append_heads _ rfl _ _ rfl W3.heap.size _ 0 [] rfl (by rw [HPN.out.1]; exact World.ownsRow_nil _ _ _ _) _ _ [(lA, (spo x).length, lK)] rfl (one_head W3 (lA, (spo x).length, lK) _ _ rfl) (by simp) (by simp) ?_)
      intro v3 W4 hown4 hgr4
      rw [HPN.out.1] at hgr4
      have hA3 : Below W3.heap.size W3 (W3.alloc (.cells #[.slice lA (spo x).length lK] 32)) := below_new _ _
      have hA4 : Below W3.heap.size W3 W4 := grown_below hA3 hgr4 (fun g' hg' => by cases hg') hA3.size
      have HX3 := HX
      have HX4 := Lib.hid (keeps_spots _ _ _ _ _ _ HX.out hA4 hA4.size)
      have hs13 := BB.size
      have BB4 := BB.trans (hA4.mono BB.size)
      clear hgr4 hA3 BB
      go_wp2_with fail
      refine (leaves_any _ _ W4 HX4.out (by omega)).mono ?_
      rintro e W5 ⟨v28, rfl, hm28, hb5⟩
      have hs34 := hA4.size
      have hs45 := hb5.size
      have BB5 := BB4.trans (hb5.mono BB4.size)
      have hA5 := hA4.trans (hb5.mono hA4.size)
      have hown5 := owns_below hown4 hb5
      have hob4 := fun g hg => (owns_own hown4 g hg).2
      obtain ⟨mA, mK, rfl, -⟩ := mems_at hm28
      have HM28 := Lib.hid hm28
      have hll := lv_short (spo x)
      clear hb5 BB4 hA4 HX HX4 hown4 hm28
      go_wp2_with (at_builtin; refine append_mems _ rfl _ _ rfl W5.heap.size _ 0 [] rfl (by rw [HPN.out.2]; exact World.ownsRow_nil _ _ _ _) _ _ _ rfl HM28.out ?c1 ?c2 ?_)
      case c1 => first | omega | (simp; omega)
      case c2 => simp
      intro v4 W6 hown6 hgr6
      rw [HPN.out.2] at hgr6
      have hs56 := hgr6.size
      have B6 : Below W5.heap.size W5 W6 := grown_below (Below.refl _ _) hgr6 (fun g' hg' => by cases hg') (Nat.le_refl _)
      have BB6 := BB5.trans (B6.mono BB5.size)
      have hA6 := hA5.trans (B6.mono hA5.size)
      have HEE : Hid (Each W3.heap.size W6 [(lA, (spo x).length, lK)] [x]) := Lib.hid (Each.one (keeps_spots _ _ _ _ _ _ HX3.out hA6 (Nat.le_refl _)))
      have hown56 := owns_base (owns_below hown5 B6) (Nat.le_refl _)
      have hap6 : Apart2 v3 v4 := fun g hg hqg => by
        have a1 := hob4 g hg
        have a2 := (owns_own hown6 g hqg).1
        omega
      have HAL2 : Hid (allO [x] = lvO x) := Lib.hid (by simp [allO])
      have hown46 : W6.ownsRow W1.heap.size 27 2 v4 (lv (spo x)).length ((lv (spo x)).flatMap mC) := owns_base (by simpa using hown6) (by omega)
      have hs36 : W3.heap.size ≤ W6.heap.size := by omega
      clear hgr6 B6 hown6 hob4 hA5 hA6 hown5 BB5 HM28 hll HPN HX3
      go_wp2
      go_roundw
      case rel => exact ⟨j + 1, _, [(lA, (spo x).length, lK)], W3.heap.size, rfl, by omega, by go_num, fun h => absurd h (Nat.succ_ne_zero _), hs13, hs36, by simpa using hown56, by rw [HSN.out]; exact HEE.out, by rw [HSN.out, HAL2.out]; exact hown46, hap6, BB6⟩
      case measure => simp [intOf]; omega
    · have hje : (groupsO fs).take j = groupsO fs := List.take_of_length_le (by have := HMM.out; omega)
      have hdd : decide (j < M) = false := decide_eq_false hlt
      rw [hje] at hE hq
      have hhd : hd.length ≤ 1 := by have := hE.1; have := HMM.out; omega
      have HQ := Lib.hid hq
      have HEZ := Lib.hid hE
      have HP := Lib.hid hp
      have HAP := Lib.hid hap
      have hsw1 := B.size
      have BBz := B.trans (Bz.mono B.size)
      have HMZ := Lib.hid (HM.out wz BBz)
      clear hnil hq hE hp hap hje HGC HMM HT HM Bz B hlt
      go_wp2_with fail
      refine HMZ.out.mono ?_
      rintro e W5 ⟨v32, rfl, hm5, hb5, hob5⟩
      obtain ⟨ms, hms⟩ : ∃ ms, membersO fs = ms := ⟨_, rfl⟩
      rw [hms] at hm5 HML HBE
      obtain ⟨mA, mK, rfl, hlc, hcm, hpm⟩ := mems_at hm5
      have HPM := Lib.hid hpm
      have HOB := Lib.hid hob5
      have hp5 := owns_below HP.out hb5
      have HQ5 := Lib.hid (owns_below HQ.out hb5)
      have HEZ5 := Lib.hid (HEZ.out.keep (hb5.mono hn1) (Nat.le_refl _))
      have BB5 := BBz.trans (hb5.mono BBz.size)
      have hs5 := hb5.size
      have hn15 : n0 ≤ W5.heap.size := Nat.le_trans hn1 hs5
      have HLT := Lib.hid (fun g hg => (owns_own HP.out g hg).2)
      obtain ⟨P0, hP0⟩ : ∃ P0 : Int × Int → Bool, (fun m => decide (m ∉ allO (groupsO fs))) = P0 := ⟨_, rfl⟩
      have HP0 : Hid (∀ m, P0 m = !decide (m ∈ allO (groupsO fs))) := Lib.hid (fun m => by rw [← hP0]; simp)
      rw [hP0] at HBE
      have hml := HML.out
      clear hm5 hb5 hpm hob5 hms HMZ HP HQ HEZ hP0 BBz HML
      go_wp2_with fail
      go_loopw [3, 34] (fun pv i wr => ∃ (k : Nat) (wq : World) (ls : List Hd), wq = wr ∧ k ≤ ms.length ∧ i = .int .i64 (k : Int) ∧ wr.ownsRow n0 32 1 pv (hd ++ ls).length ((hd ++ ls).flatMap hC) ∧ Each n0 wr hd (groupsO fs) ∧ Pairs (LeafAt pv) 0 wr ls ((ms.take k).filter P0) ∧ Apart2 pv u4 ∧ Below n0 W5 wr ∧ wr.ownsRow W1.heap.size 27 2 u4 (allO (groupsO fs)).length ((allO (groupsO fs)).flatMap mC) ∧ Turned u3 W5 wr ∧ FromOr u3 pv W5.heap.size) (fun _ i _ => ms.length - (intOf i).toNat)
      case atStart => exact ⟨0, _, [], rfl, Nat.zero_le _, rfl, by simpa using hp5, HEZ5.out, Pairs.nil _ _ _, HAP.out, Below.refl _ _, HQ5.out, fun _ _ _ => rfl, .inl rfl⟩
      case round =>
        clear hp5
        obtain ⟨k, wz2, ls, rfl, hk, rfl, hp0, hE0, hls0, hap0, Bz2, hq0, hT0, hf0⟩ := hrel
        have hsz5 := Bz2.size
        by_cases hlt : k < ms.length
        · have hd2 : decide (k < ms.length) = true := decide_eq_true hlt
          have hi : (k : Int) < (ms.length : Int) := by omega
          have hge : (0 : Int) ≤ (k : Int) := by omega
          obtain ⟨g, off, rfl, hgn, hc0, hc1⟩ := HPM.out k hlt
          have hcb := hT0 g hgn (fun e => by have a1 := HLT.out g e; have a2 := HOB.out g rfl; omega)
          have k0 := (cell_of hcb (off + k * 2)).trans hc0
          have k1 := (cell_of hcb (off + k * 2 + 1)).trans hc1
          have hsn := filter_snoc P0 ms k hlt
          have hll : ls.length ≤ 11 := by
            rw [hls0.1]
            exact Nat.le_trans (List.length_filter_le _ _) (by rw [List.length_take]; omega)
          obtain ⟨⟨a, b⟩, hf⟩ : ∃ f, ms[k] = f := ⟨_, rfl⟩
          rw [hf] at k0 k1 hsn
          simp only at k0 k1
          have HSN := Lib.hid hsn
          have HEA := Lib.hid hE0
          have HLS := Lib.hid hls0
          have HT2 := Lib.hid hT0
          have HF2 := Lib.hid hf0
          have HQ2 := Lib.hid hq0
          have HAP2 := Lib.hid hap0
          have HPR := Lib.hid hp0
          have HHA := Lib.hid (fun (W : World) (hb : Below wz2.heap.size wz2 W) => has_any _ _ a b W (keeps_mems _ _ _ _ _ _ (own_mems hq0) hb hb.size))
          clear hc0 hc1 hf hsn hcb hE0 hls0 hT0 hf0 hq0 hap0 hp0 HQ5 HEZ5 HAP HSF HBE
          go_wp2_with fail
          obtain ⟨W6, hW6, b9, B6⟩ : ∃ W6, wz2.alloc (.cells #[.int .i64 a, .int .i64 b] 27) = W6 ∧ Box W6 wz2.heap.size [.int .i64 a, .int .i64 b] ∧ Below wz2.heap.size wz2 W6 := ⟨_, rfl, Box.new wz2 _ _, below_new _ _⟩
          rw [hW6]
          have HHB := Lib.hid (HHA.out W6 B6)
          clear hW6 k0 k1 HHA
          refine HHB.out.mono ?_
          rintro e W7 ⟨rfl, hb⟩
          have b97 := b9.next hb
          have B7 := B6.trans (hb.mono B6.size)
          have hz0 := HP0.out (a, b)
          clear hb B6 HHB b9
          have HPR7 := Lib.hid (owns_below HPR.out B7)
          have HQ7 := Lib.hid (owns_below HQ2.out B7)
          have HEA7 := Lib.hid (HEA.out.keep (B7.mono (Nat.le_trans hn15 hsz5)) (Nat.le_refl _))
          have HLS7 := Lib.hid (leaves_keep HLS.out (fun g _ hg => B7.block g hg))
          have HT7 := Lib.hid (HT2.out.next B7 hsz5)
          have BB7 := Bz2.trans (B7.mono (Nat.le_trans hn15 hsz5))
          have hsz7 := Nat.le_trans hsz5 B7.size
          clear HPR HQ2 HEA HLS HT2 B7 Bz2
          cases hz : decide ((a, b) ∈ allO (groupsO fs))
          · rw [hz] at hz0
            have HZ : Hid (P0 (a, b) = true) := Lib.hid hz0
            have q0 := b97.c 0 _ rfl
            have q1 := b97.c 1 _ rfl
            clear hz0 hz
            go_wp2_with fail
            refine (leafOwn_any a b W7).mono ?_
            rintro e W8 ⟨H, rfl, hHn, bH, hb8⟩
            have HPR8 := Lib.hid (owns_below HPR7.out hb8)
            have HQ8 := Lib.hid (owns_below HQ7.out hb8)
            have hs78 := hb8.size
            have HEA8 := Lib.hid (HEA7.out.keep (hb8.mono (by omega)) (Nat.le_refl _))
            have HLS8 := Lib.hid (leaves_keep HLS7.out (fun g _ hg => hb8.block g hg))
            have HT8 := Lib.hid (HT7.out.next hb8 hsz7)
            have BB8 := BB7.trans (hb8.mono (by omega))
            have HPH := Lib.hid (fun g hg => (owns_own HPR7.out g hg).2)
            have hsz8 := Nat.le_trans hsz7 hs78
            clear HPR7 HQ7 HEA7 HLS7 HT7 BB7 hb8 q0 q1 b97
            go_wp2_with (at_builtin; refine append_headsN _ rfl _ _ rfl n0 _ _ _ rfl (HPR8.out.alloc _) _ _ [(some ⟨H, 0, none⟩, 1, 1)] rfl (one_head W8 (some ⟨H, 0, none⟩, 1, 1) _ _ rfl) ?c1 ?c2 ?_)
            case c1 => first | omega | (simp; omega)
            case c2 => simp; omega
            intro v9 W9 hown9 hgr9 hloc9
            obtain ⟨X, hX⟩ : ∃ X, W8.alloc (.cells #[.slice (some ⟨H, 0, none⟩) 1 1] 32) = X := ⟨_, rfl⟩
            have hBX : Below W8.heap.size W8 X := by rw [← hX]; exact below_new _ _
            have hXs : X.heap.size = W8.heap.size + 1 := by rw [← hX]; simp
            rw [hX] at hgr9
            rw [← hXs] at hloc9
            have hn8 : n0 ≤ W8.heap.size := Nat.le_trans hn15 hsz8
            have B9 : Below n0 W8 W9 := grown_below (hBX.mono hn8) hgr9 (fun g' hg' => (owns_own HPR8.out g' hg').1) (by omega)
            have HEA9 := Lib.hid (HEA8.out.keep B9 (Nat.le_refl _))
            have HQX := owns_below HQ8.out hBX
            have HQ9 := Lib.hid (own_grown HQX hgr9 (fun g hg e => HAP2.out g e hg))
            have HT9 := Lib.hid ((HT8.out.next hBX hsz8).grown hgr9 HF2.out (by omega))
            have HF9 := Lib.hid (HF2.out.turn hloc9 (by omega))
            have HAP9 := Lib.hid (HAP2.out.left HQX hloc9)
            have HNX : Pairs (LeafAt _) 0 X (ls ++ [(some ⟨H, 0, none⟩, 1, 1)]) ((ms.take k).filter P0 ++ [(a, b)]) := (leaves_keep HLS8.out (fun g _ hg => hBX.block g hg)).append (Pairs.one ⟨H, rfl, bH.next hBX, fun e => by have := HPH.out H e; omega⟩)
            have HL9 := Lib.hid (leaves_next HNX (fun g hg hl => hgr9.block g hl (fun e => hg e.symm)) hloc9)
            have BB9 := BB8.trans B9
            clear hX hBX hXs hgr9 hloc9 B9 HEA8 HQX HAP2 HT8 HF2 HLS8 HNX HPR8 HQ8 bH BB8 HPH
            go_wp2
            go_roundw
            case rel => exact ⟨k + 1, _, ls ++ [(some ⟨H, 0, none⟩, 1, 1)], rfl, by omega, by go_num, by simpa [Nat.add_assoc] using hown9, HEA9.out, by rw [HSN.out, HZ.out]; simpa using HL9.out, HAP9.out, BB9, HQ9.out, HT9.out, HF9.out⟩
            case measure => simp [intOf]; omega
          · rw [hz] at hz0
            have HZ : Hid (P0 (a, b) = false) := Lib.hid hz0
            clear hz0 hz b97
            go_wp2
            go_roundw
            case rel => exact ⟨k + 1, _, ls, rfl, by omega, by go_num, HPR7.out, HEA7.out, by rw [HSN.out, HZ.out]; simpa using HLS7.out, HAP2.out, BB7, HQ7.out, HT7.out, HF2.out⟩
            case measure => simp [intOf]; omega
        · have hd2 : decide (k < ms.length) = false := decide_eq_false hlt
          have hke : ms.take k = ms := List.take_of_length_le (by omega)
          rw [hke, HBE.out] at hls0
          have hx := HSF.out
          have HG := Lib.hid (gMerge_wide _ _ _ wz2 (own_heads hp0) ((hE0.keep (Below.refl _ _) (Nat.le_trans hn15 hsz5)).append (leaves_each hls0)) hx.1 hx.2.1 hx.2.2.1 hx.2.2.2.1)
          have HME := Lib.hid hx.2.2.2.2
          have BB := BB5.trans (Bz2.mono (Nat.le_trans hsw1 hn0))
          clear hke hls0 hx hp0 hE0 hap0 hq0 hT0 hf0 HQ5 HEZ5 HAP HSF HBE BB5 Bz2 HPM HOB HLT
          go_wp2_with fail
          refine HG.out.mono ?_
          rintro e W10 ⟨v10, rfl, hv10, hb10⟩
          rw [HME.out] at hv10
          obtain ⟨nA, nK, rfl, -, -, -⟩ := spots_at hv10
          have HV := Lib.hid hv10
          replace BB := BB.trans (hb10.mono BB.size)
          clear hv10 hb10 HG HME
          go_wp2
          go_ret
          exact ⟨_, rfl, HV.out, BB⟩
end Go.Proofs.Ytkmlnglmecjmeaa
