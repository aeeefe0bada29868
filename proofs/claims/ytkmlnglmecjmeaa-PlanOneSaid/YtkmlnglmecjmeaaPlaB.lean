import Derived.Test.YtkmlnglmecjmeaaPlaM
import Derived.Test.YtkmlnglmecjmeaaPhaseU
import Derived.Test.YtkmlnglmecjmeaaOwnNew
import Derived.Maps.OwnSet
import Derived.DeepKeys4
/- Layer 15's byId, where all who had a key had one. Conditions: as said (oneKey; each may be). -/
namespace Go.Proofs.Ytkmlnglmecjmeaa
open Go Go.RowKit
set_option linter.unusedVariables false

theorem laidP15 : laidOutB Try.prog = true := by kernel_rfl
theorem keyLaw : Maps.Keyed Try.prog 30 := Maps.Keyed.of_law (deep_law_laid laidP15 (m := 3) (by omega) (of_decide_eq_true (by kernel_rfl)) (by kernel_rfl) (by kernel_rfl))
theorem key_is (a b c : Int) (ha : (Lit.int .i64 a).wf = true) (hb : (Lit.int .i64 b).wf = true) (hc : (Lit.int .i64 c).wf = true) : ∃ kl, keyOf Try.prog 30 (vV a b c) = some kl := by
  have h1 : Try.prog.keyType 30 = true := by kernel_rfl
  have h2 : Value.formed Try.prog 30 (vV a b c) = true := by
    simp [Value.formed, Try.underlying30]
    kernel_rfl
  obtain ⟨d, hd⟩ : ∃ d, Try.prog.types.size + 1 = d + 2 := ⟨Try.prog.types.size - 1, by
    have : 0 < Try.prog.types.size := of_decide_eq_true (by kernel_rfl)
    omega⟩
  have hcI : Try.prog.cellsOf 3 = 1 := by kernel_rfl
  have hcV : Try.prog.cellsOf 30 = 3 := by kernel_rfl
  unfold keyOf
  rw [Try.underlying30]
  simp only [h1, h2, Bool.and_self, if_true, hd]
  simp [Program.keyLits, Try.underlying30, Try.underlying3, Value.cells, ha, hb, hc, hcI, hcV]
theorem okC_wf {a : Int} (h : okC a = true) : (Lit.int .i64 a).wf = true := by
  unfold okC at h
  simp at h
  exact WalkArith.wf_i64 (by omega)
theorem okV_wf {a b c : Int} (h : okV a b c = true) : (Lit.int .i64 a).wf = true ∧ (Lit.int .i64 b).wf = true ∧ (Lit.int .i64 c).wf = true := by
  unfold okV noneV okM okC at h
  simp at h
  refine ⟨WalkArith.wf_i64 (by omega), WalkArith.wf_i64 (by omega), WalkArith.wf_i64 (by omega)⟩
theorem zeroI (w : World) : (zeroValue 3).run Try.prog w = .ok (.int .i64 0) w := by kernel_rfl
/-- A group's head: a tree's slice, its members'. -/
abbrev grC (p : Hd × Hd) : List Value := [hV p.1, hV p.2]
def IsGr : Rd (Hd × Hd) := fun _ _ h cs => cs = grC h
theorem oneGr (a : Hd × Hd) : ∀ u ∈ grC a, u.oneCell' = true := by
  intro u hu
  simp at hu
  rcases hu with rfl | rfl <;> rfl
theorem infoGr : (Try.prog.info? 53).map (fun i => (i.zero, i.size, i.bytes)) = some (some (.agg #[.slice none 0 0, .slice none 0 0]), 2, 48) := by kernel_rfl
theorem append_grs {ops : Array Oper} {rest : List Oper} {o : Oper} {a : Act} {Q : Exit → Act → World → Prop} (w : World) (hw : Region.wanted o (yielded ops a.tmps) = true) (so x : Operand)
    (ho : o.op = .call { callee := .builtin .append, args := #[so, x], argTypes := #[50, 50] })
    (base : Nat) (v : Value) (n : Nat) (ys : List Value) (hv : a.eval so = v) (hown : w.ownsRow base 53 2 v n ys)
    (n₀ : Nat) (V : Value) (xs : List (Hd × Hd)) (hx : a.eval x = V) (hL : SliceOf 2 IsGr n₀ w xs [V]) (hb : n + xs.length ≤ 100000) (hbase : base ≤ w.heap.size)
    (h : ∀ v' w', w'.ownsRow base 53 2 v' (n + xs.length) (ys ++ xs.flatMap grC) → w.grownBy w' v.ownBlock → wpList Try.prog ops Q rest (a.put o.dst v') w') : wpList Try.prog ops Q (o :: rest) a w :=
  append_slice (enc := grC) (s := 2) (R := IsGr) (fun _ _ _ _ h => h) (by decide) (fun _ => rfl) oneGr Try.underlying50 infoGr rfl w hw so x ho base v n ys hv hown n₀ V xs hx hL (Nat.le_trans hb (by decide)) (by omega) hbase h
theorem one_gr (w : World) (p : Hd × Hd) (t : TypeId) (g : Nat) (hg : w.heap.size = g) : SliceOf 2 IsGr (g + 1) (w.alloc (.cells #[hV p.1, hV p.2] t)) [p] [.slice (some ⟨g, 0, none⟩) 1 1] := by
  subst hg
  refine ⟨some ⟨w.heap.size, 0, none⟩, 1, rfl, Nat.le_refl _, by decide, (fun h => by cases h), fun _ => ⟨w.heap.size, 0, rfl, by omega, fun i hi => ⟨grC p, rfl, fun j hj => ?_, ?_⟩⟩⟩
  · have : i = 0 := by simpa using hi
    subst this
    have e : (w.alloc (.cells #[hV p.1, hV p.2] t)).cell? ⟨w.heap.size, 0 + 0 * 2 + j, none⟩ = (#[hV p.1, hV p.2] : Array Value)[0 + 0 * 2 + j]? := by simp only [World.cell?, heap_alloc_new]; rfl
    rw [e]
    have hj2 : j = 0 ∨ j = 1 := by omega
    rcases hj2 with rfl | rfl <;> rfl
  · have : i = 0 := by simpa using hi
    subst this
    rfl
theorem box_of_own {w : World} {base : Nat} {e : TypeId} {s : Nat} {v : Value} {n : Nat} {ys : List Value} (h : w.ownsRow base e s v n ys) (hn : 0 < n) : ∃ g cap, v = .slice (some ⟨g, 0, none⟩) n cap ∧ base ≤ g ∧ n ≤ cap ∧ cap ≤ maxLen ∧ Box w g ys := by
  rcases h.2 with ⟨-, h2⟩ | ⟨g, cap, cur, h1, h2, h3, h4, h5, h6, h7⟩
  · omega
  · refine ⟨g, cap, h1, h2, h4, h5, ⟨fun i u hi => ?_, fun i hi => ?_⟩⟩
    · rw [← h7, List.getElem?_take] at hi
      split at hi
      · simpa [World.cell?, h3] using hi
      · cases hi
    · simp [World.frozen?, h3]
theorem keyed_snoc (fs : List Fl) (k : Nat) (h : k < fs.length) : keyedO (fs.take (k + 1)) = keyedO (fs.take k) ++ if decide (fs[k].id ≠ (0, 0, 0)) = true then [fs[k]] else [] := by
  unfold keyedO
  rw [List.take_succ_eq_append_getElem h, List.filter_append, List.filter_cons, List.filter_nil]
/-- A member put behind members of one's own, as it runs. -/
theorem run_mem (ty : TypeId) (w : World) (base : Nat) (v : Value) (n : Nat) (ys : List Value) (hown : w.ownsRow base 27 2 v n ys) (H : Nat) (a b : Int) (hc : w.cell? ⟨H, 0, none⟩ = some (.int .i64 a) ∧ w.cell? ⟨H, 1, none⟩ = some (.int .i64 b)) (hn : n ≤ 1000) (hb : base ≤ w.heap.size) :
    ∃ v' w', (Builtin.append_ #[22, 22] ty #[v, .slice (some ⟨H, 0, none⟩) 1 1]).run Try.prog w = .ok v' w' ∧ w'.ownsRow base 27 2 v' (n + 1) (ys ++ [.int .i64 a, .int .i64 b]) ∧ w.grownBy w' v.ownBlock ∧ (v'.ownBlock = v.ownBlock ∨ v'.ownBlock = some w.heap.size) := by
  obtain ⟨i0, hi, hz0, hz1, hz2⟩ := info_parts infoM
  have hn1 : ∀ j u, [Value.int .i64 a, Value.int .i64 b][j]? = some u → w.cell? ((⟨H, 0, none⟩ : Addr).add j) = some u := fun j u hj => by
    have hj2 : j = 0 ∨ j = 1 := by
      have := (List.getElem?_eq_some_iff.1 hj).1
      simp at this
      omega
    rcases hj2 with rfl | rfl
    · simp at hj; subst hj; exact hc.1
    · simp at hj; subst hj; exact hc.2
  have h1 : ∀ u ∈ [Value.int .i64 a, Value.int .i64 b], u.oneCell' = true := fun u hu => by
    simp at hu
    rcases hu with rfl | rfl <;> rfl
  obtain ⟨v', w', hr, h2, h3, h4⟩ := run_append_own (P := Try.prog) w base 22 ty 27 i0 _ 2 16 Try.underlying22 hi hz0 hz1 hz2 rfl (by decide) v n ys hown ⟨H, 0, none⟩ 1 1 [.int .i64 a, .int .i64 b] rfl hn1 h1 (by unfold maxLen; omega) (by omega) hb
  exact ⟨v', w', hr, h2, h3, append_block base 22 ty 27 i0 _ 2 16 Try.underlying22 hi hz0 hz1 hz2 v n ys hown ⟨H, 0, none⟩ 1 1 [.int .i64 a, .int .i64 b] rfl hn1 h1 (by unfold maxLen; omega) (by omega) hr⟩

/-- How groups stand: none yet, or the one. -/
def Grp (w0 w : World) (kl : Lit) (t : Tr) (ks : List Fl) (v : Value) : Prop :=
  (ks = [] ∧ v = .slice none 0 0 ∧ w.ownsMap (H := Unit) Try.prog 30 (plainElem Try.prog 3) w0.heap.size 0 (.map [])) ∨
  (ks ≠ [] ∧ ∃ (gg cap : Nat) (tA : Option Addr) (tN tK : Nat) (wv : Value), v = .slice (some ⟨gg, 0, none⟩) 1 cap ∧ 1 ≤ cap ∧ cap ≤ maxLen ∧ w0.heap.size < gg ∧ Box w gg [.slice tA tN tK, wv] ∧
    w.ownsRow (w0.heap.size + 1) 27 2 wv (ks.map (·.who)).length ((ks.map (·.who)).flatMap mC) ∧ wv.ownBlock ≠ some gg ∧
    w.ownsMap (H := Unit) Try.prog 30 (plainElem Try.prog 3) w0.heap.size 1 (DataW.put (.map []) kl (.lit (.int .i64 0))) ∧ Spots w0.heap.size w0 (spo (some t)) [.slice tA tN tK])
theorem Grp.keep {w0 w w' : World} {kl : Lit} {t : Tr} {ks : List Fl} {v : Value} (h : Grp w0 w kl t ks v) (hb : Below w.heap.size w w') : Grp w0 w' kl t ks v := by
  have hm : ∀ n M, w.ownsMap (H := Unit) Try.prog 30 (plainElem Try.prog 3) w0.heap.size n M → w'.ownsMap Try.prog 30 (plainElem Try.prog 3) w0.heap.size n M := fun n M h => by
    obtain ⟨es, clock, h1, h2, h3, h4⟩ := h
    exact ⟨es, clock, (hb.block _ (Array.getElem?_eq_some_iff.1 h1).1).trans h1, h2, h3, h4⟩
  rcases h with ⟨h1, h2, h3⟩ | ⟨h1, gg, cap, tA, tN, tK, wv, h2, h3, h4, h5, h6, h7, h8, h9, h10⟩
  · exact Or.inl ⟨h1, h2, hm _ _ h3⟩
  · exact Or.inr ⟨h1, gg, cap, tA, tN, tK, wv, h2, h3, h4, h5, h6.next hb, owns_below h7 hb, h8, hm _ _ h9, h10⟩

set_option maxRecDepth 100000 in
set_option maxHeartbeats 16000000 in
theorem byId_any (v : Value) (hs : List FH) (fs : List Fl) (K : Int × Int × Int) (t : Tr) (w : World) (hH : FHs w.heap.size w hs [v]) (hE : EachF w.heap.size w hs fs) (hn0 : fs.length ≤ 1000) (hk : ∀ f ∈ fs, okF f) (h1 : oneKey fs K t) :
    Calls Try.prog 18 #[v] w fun e W' => ∃ v' kl, e = .returned v' ∧ Grp w W' kl t (keyedO fs) v' ∧ Below w.heap.size w W' := by
  obtain ⟨A, cap, rfl, hlc, hcm, hp⟩ := fhs_at hH
  have HP := Lib.hid hp
  have HE := Lib.hid hE
  have hl : hs.length = fs.length := hE.1
  have HL := Lib.hid hl
  have hn : hs.length ≤ 1000 := by rw [hl]; exact hn0
  obtain ⟨kl, hkl⟩ : ∃ kl, ∀ f ∈ fs, f.id ≠ (0, 0, 0) → keyOf Try.prog 30 (vV f.id.1 f.id.2.1 f.id.2.2) = some kl := by
    by_cases hx : ∃ f ∈ fs, f.id ≠ (0, 0, 0)
    · obtain ⟨f, hf, hne⟩ := hx
      have hw := okV_wf (hk f hf).2.2.1
      obtain ⟨kl, hkl⟩ := key_is _ _ _ hw.1 hw.2.1 hw.2.2
      refine ⟨kl, fun g hg hgn => ?_⟩
      rw [(h1 g hg hgn).1, ← (h1 f hf hne).1]
      exact hkl
    · exact ⟨.bool true, fun f hf h => absurd ⟨f, hf, h⟩ hx⟩
  have HK := Lib.hid hkl
  have H1 := Lib.hid h1
  clear hp hH hcm hE hl hkl h1 hk
  have hmm := @run_makeMap Try.prog
  go_enter Try.func18, Try.ntmps18
  go_wp2_with fail
  obtain ⟨W0, hW0, BN, hmap0, hs0⟩ : ∃ W0, w.alloc (.map #[] 0) = W0 ∧ Below w.heap.size w W0 ∧ W0.ownsMap (H := Unit) Try.prog 30 (plainElem Try.prog 3) w.heap.size 0 (.map []) ∧ w.heap.size + 1 ≤ W0.heap.size := ⟨_, rfl, below_new _ _, World.ownsMap_made _ _ _ _, by simp⟩
  rw [hW0]
  have HG0 : Hid (Grp w W0 kl t (keyedO (fs.take 0)) (.slice none 0 0)) := Lib.hid (Or.inl ⟨rfl, rfl, hmap0⟩)
  clear hW0 hmap0
  go_loopw [3, 12] (fun u i wr => ∃ (k : Nat) (wq : World), wq = wr ∧ k ≤ hs.length ∧ i = .int .i64 k ∧ Below w.heap.size w wr ∧ w.heap.size + 1 ≤ wr.heap.size ∧ Grp w wr kl t (keyedO (fs.take k)) u) (fun _ i _ => hs.length - (intOf i).toNat)
  case atStart => exact ⟨0, _, rfl, Nat.zero_le _, rfl, BN, hs0, HG0.out⟩
  case round =>
    clear BN hs0 HG0
    obtain ⟨k, wz, rfl, hk, rfl, B, hsz, hG⟩ := hrel
    by_cases hlt : k < hs.length
    · have hd : decide (k < hs.length) = true := by simpa using hlt
      have hi : (k : Int) < (hs.length : Int) := by omega
      have hge : (0 : Int) ≤ (k : Int) := by omega
      obtain ⟨g, off, rfl, hgn, hc⟩ := HP.out k hlt
      have hfk : k < fs.length := by rw [← HL.out]; exact hlt
      obtain ⟨t1, t2, t3, t4⟩ := HE.out.get k hlt hfk
      obtain ⟨f, hff⟩ : ∃ f, fs[k] = f := ⟨_, rfl⟩
      have hmem : f ∈ fs := by rw [← hff]; exact List.getElem_mem hfk
      have hsn := keyed_snoc fs k hfk
      rw [hff] at t1 t2 t3 t4 hsn
      obtain ⟨⟨⟨a, b⟩, ⟨o1, o2, o3⟩, ⟨sA, sN, sK⟩, ⟨i1, i2, i3⟩, ⟨tA, tN, tK⟩, wt⟩, hf⟩ : ∃ f, hs[k] = f := ⟨_, rfl⟩
      rw [hf] at hc t1 t2 t3 t4
      simp only at t1 t2 t3 t4
      have y0 := (B.cell (p := ⟨g, off + k * 11, none⟩) hgn).trans (hc 0 _ rfl)
      have y1 := (B.cell (p := ⟨g, off + k * 11 + 1, none⟩) hgn).trans (hc 1 _ rfl)
      have y2 := (B.cell (p := ⟨g, off + k * 11 + 2, none⟩) hgn).trans (hc 2 _ rfl)
      have y3 := (B.cell (p := ⟨g, off + k * 11 + 3, none⟩) hgn).trans (hc 3 _ rfl)
      have y4 := (B.cell (p := ⟨g, off + k * 11 + 4, none⟩) hgn).trans (hc 4 _ rfl)
      have y5 := (B.cell (p := ⟨g, off + k * 11 + 5, none⟩) hgn).trans (hc 5 _ rfl)
      have y6 := (B.cell (p := ⟨g, off + k * 11 + 6, none⟩) hgn).trans (hc 6 _ rfl)
      have y7 := (B.cell (p := ⟨g, off + k * 11 + 7, none⟩) hgn).trans (hc 7 _ rfl)
      have y8 := (B.cell (p := ⟨g, off + k * 11 + 8, none⟩) hgn).trans (hc 8 _ rfl)
      have y9 := (B.cell (p := ⟨g, off + k * 11 + 9, none⟩) hgn).trans (hc 9 _ rfl)
      have y10 := (B.cell (p := ⟨g, off + k * 11 + 10, none⟩) hgn).trans (hc 10 _ rfl)
      clear hc hf hff
      have HSp0 := Lib.hid t4
      have HHG := Lib.hid hG
      have hidk := HK.out f hmem
      have hone := H1.out f hmem
      rw [← t2] at hsn hidk hone
      have hwho : f.who = (a, b) := t1.symm
      have HF := Lib.hid (And.intro hsn (And.intro hidk hone))
      clear t1 t2 t3 t4 hsn hidk hone hG
      go_wp2_with fail
      obtain ⟨G6, hG6⟩ : ∃ G, wz.heap.size = G := ⟨_, rfl⟩
      obtain ⟨W1, hW1, b6, B0⟩ : ∃ W1, wz.alloc (.cells #[.int .i64 a, .int .i64 b, .int .i64 o1, .int .i64 o2, .int .i64 o3, .slice sA sN sK, .int .i64 i1, .int .i64 i2, .int .i64 i3, .slice tA tN tK, .bool wt] 36) = W1 ∧ Box W1 G6 [.int .i64 a, .int .i64 b, .int .i64 o1, .int .i64 o2, .int .i64 o3, .slice sA sN sK, .int .i64 i1, .int .i64 i2, .int .i64 i3, .slice tA tN tK, .bool wt] ∧ Below wz.heap.size wz W1 := ⟨_, rfl, by rw [← hG6]; exact Box.new wz _ _, below_new _ _⟩
      rw [hW1]
      try rw [hG6]
      have BB := B.trans (B0.mono B.size)
      have hGx := HHG.out.keep B0
      have hsG : w.heap.size < G6 := by omega
      have hs1 : w.heap.size + 1 ≤ W1.heap.size := Nat.le_trans hsz B0.size
      clear hW1 B hsz B0 HHG y0 y1 y2 y3 y4 y5 y6 y7 y8 y9 y10
      refine (none_any i1 i2 i3 W1).mono ?_
      rintro e W2 ⟨rfl, hb⟩
      replace b6 := b6.next hb
      have hGy := hGx.keep hb
      replace BB := BB.trans (hb.mono BB.size)
      have hs2 : w.heap.size + 1 ≤ W2.heap.size := Nat.le_trans hs1 hb.size
      have hz0 := noneV_dec i1 i2 i3
      clear hb hGx hs1 hG6
      cases hz : noneV i1 i2 i3
      · rw [hz] at hz0
        have hnz : ((i1, i2, i3) : Int × Int × Int) ≠ (0, 0, 0) := of_decide_eq_false hz0.symm
        obtain ⟨hsn, hidk, hone⟩ := HF.out
        have hkey := hidk hnz
        have htr := (hone hnz).2
        rw [if_pos (decide_eq_true hnz)] at hsn
        have HSY : Hid (Spots w.heap.size w (spo (some t)) [.slice tA tN tK]) := Lib.hid (by rw [← htr]; exact HSp0.out)
        have HSN := Lib.hid hsn
        clear hz0 hz hnz hsn hidk hone htr HF HSp0
        rcases hGy with ⟨hks, rfl, hmap⟩ | ⟨hks, gg, cap, tA2, tN2, tK2, wv, rfl, hc1, hcm, hgB, bg, how, hne, hmap, hsp⟩
        · have hh : Maps.has (.map [] : DataW Unit) kl = false := rfl
          have HKS := Lib.hid hks
          clear hks
          have q6 := b6.c 6 _ rfl
          have q7 := b6.c 7 _ rfl
          have q8 := b6.c 8 _ rfl
          go_wp2_with (at_lookup; refine wpList_lookup_own_ok_int _ rfl _ _ 63 rfl 30 3 .i64 keyLaw Try.underlying63 Try.underlying3 (zeroI _) w.heap.size 0 (.map []) rfl hmap _ kl rfl hkey ?_)
          intro c hat hwc
          clear hat hwc
          go_wp2_with (at_mapUpdate; refine wpList_mapUpdate_in _ rfl _ _ _ 63 rfl 30 3 keyLaw Try.underlying63 _ w.heap.size 0 (.map []) rfl hmap (by unfold maxLen; omega) _ _ kl rfl rfl hkey _ [] (plainElem_int Try.underlying3 (by decide)) ?_)
          intro W3 hmap3 hturn
          have hgr3 := hturn.grown
          have b63 := b6.keep (hgr3.block G6 b6.lt (by simp; omega))
          have B3 : Below w.heap.size w W3 := grown_below BB hgr3 (fun g' hg' => by simp at hg'; omega) BB.size
          have BW : W2.heap.size ≤ W3.heap.size := hgr3.size
          have q9 := b63.c 9 _ rfl
          clear b6 hturn hgr3 hmap q6 q7 q8
          obtain ⟨nv, hnv⟩ : ∃ nv, Value.slice none 0 0 = nv := ⟨_, rfl⟩
          have HNV : Hid (∀ wq : World, wq.ownsRow W3.heap.size 53 2 nv 0 []) := Lib.hid (by rw [← hnv]; exact fun wq => World.ownsRow_nil _ _ _ _)
          have HNB : Hid (nv.ownBlock = none) := Lib.hid (by rw [← hnv]; rfl)
          have HNE := Lib.hid hnv.symm
          rw [hnv]
          clear hnv
          go_wp2_with (at_builtin; refine append_grs _ rfl _ _ rfl W3.heap.size nv 0 [] rfl (HNV.out _) _ _ [((tA, tN, tK), (none, 0, 0))] rfl (one_gr W3 ((tA, tN, tK), (none, 0, 0)) _ _ rfl) (by simp) (by simp) ?_)
          intro v4 W4 hown4 hgr4
          rw [HNB.out] at hgr4
          obtain ⟨gg, cap, rfl, hg3, hc1, hcm, bg⟩ := box_of_own hown4 (by simp)
          have hA3 : Below W3.heap.size W3 (W3.alloc (.cells #[.slice tA tN tK, .slice none 0 0] 53)) := below_new _ _
          have hA4 : Below W3.heap.size W3 W4 := grown_below hA3 hgr4 (fun g' hg' => by cases hg') hA3.size
          have b6 := b63.below hA4 b63.lt
          have BX := B3.trans (hA4.mono B3.size)
          have hsx : w.heap.size + 1 ≤ W4.heap.size := Nat.le_trans hs2 (Nat.le_trans BW hA4.size)
          have hgB : w.heap.size < gg := by omega
          have hmap : W4.ownsMap (H := Unit) Try.prog 30 (plainElem Try.prog 3) w.heap.size 1 (DataW.put (.map []) kl (.lit (.int .i64 0))) := (hmap3.alloc _).kept hgr4 (by simp)
          obtain ⟨wv, hwv⟩ : ∃ wv, Value.slice none 0 0 = wv := ⟨_, rfl⟩
          have how : W4.ownsRow (w.heap.size + 1) 27 2 wv 0 [] := by rw [← hwv]; exact World.ownsRow_nil _ _ _ _
          have hne : wv.ownBlock ≠ some gg := by rw [← hwv]; simp [Value.ownBlock]
          have hll : 0 ≤ 1000 := by decide
          replace bg : Box W4 gg [.slice tA tN tK, wv] := by rw [← hwv]; exact bg
          clear hown4 hgr4 hA3 hA4 b63 B3 hmap3 BB hs2 BW q9 hg3 hwv
          go_wp2_with fail
          obtain ⟨wd, hwd⟩ : ∃ wd, W4.drew = wd := ⟨_, rfl⟩
          have hB0 : Below W4.heap.size W4 wd := by rw [← hwd]; exact ⟨rfl, rfl, rfl, Nat.le_refl _, fun _ _ => rfl⟩
          have bgd := bg.next hB0
          have b6d := b6.next hB0
          have d0 := bgd.c 1 _ rfl
          have d2 := b6d.c 0 _ rfl
          have d3 := b6d.c 1 _ rfl
          obtain ⟨H, hH⟩ : ∃ H, wd.heap.size = H := ⟨_, rfl⟩
          obtain ⟨V1, hV1⟩ : ∃ V, wd.alloc (.cells #[.int .i64 a, .int .i64 b] 27) = V := ⟨_, rfl⟩
          have hB1 : Below wd.heap.size wd V1 := by rw [← hV1]; exact below_new _ _
          have bg1 := bgd.next hB1
          have d1 := bg1.c 1 _ rfl
          have how1 := owns_below (owns_below how hB0) hB1
          have hs1 : w.heap.size + 1 ≤ V1.heap.size := Nat.le_trans hsx (Nat.le_trans hB0.size hB1.size)
          obtain ⟨v5, V2, hrun, how2, hgr, hloc⟩ := run_mem 22 V1 (w.heap.size + 1) wv _ _ how1 H a b (by rw [← hV1, ← hH]; exact ⟨(Box.new wd [.int .i64 a, .int .i64 b] _).c 0 _ rfl, (Box.new wd [.int .i64 a, .int .i64 b] _).c 1 _ rfl⟩) hll hs1
          obtain ⟨aA, aN, aK, rfl⟩ : ∃ aA aN aK, v5 = Value.slice aA aN aK := by
            rcases how2.2 with ⟨hv, _⟩ | ⟨_, _, _, hv, _⟩
            · exact ⟨_, _, _, hv⟩
            · exact ⟨_, _, _, hv⟩
          have bg2 := bg1.keep (hgr.block gg bg1.lt (fun e => hne e.symm))
          have d4 := bg2.c 1 _ rfl
          have f4 := bg2.f 1 (by simp)
          obtain ⟨V3, hV3⟩ : ∃ V, V2.setCell ⟨gg, 1, none⟩ (.slice aA aN aK) = V := ⟨_, rfl⟩
          have bg3 : Box V3 gg [.slice tA tN tK, .slice aA aN aK] := by rw [← hV3]; exact bg2.put 1 (.slice aA aN aK)
          have hne5 : (Value.slice aA aN aK).ownBlock ≠ some gg := by
            rcases hloc with h | h
            · rw [h]; exact hne
            · rw [h]
              intro e
              have := bg1.lt
              simp only [Option.some.injEq] at e
              omega
          have how3 := owns_block (w' := V3) how2 (fun g' hg' => by
            have : g' ≠ gg := fun e => hne5 (by rw [hg', e])
            rw [← hV3]
            exact Below.heap_setCell _ _ _ _ this)
          have hG0 : wd.grownBy V1 none := by rw [← hV1]; exact World.grownBy_alloc _ _ _
          have hgm : ∀ M, W4.ownsMap (H := Unit) Try.prog 30 (plainElem Try.prog 3) w.heap.size 1 M → V3.ownsMap Try.prog 30 (plainElem Try.prog 3) w.heap.size 1 M := by
            intro M h
            have h1 : wd.ownsMap Try.prog 30 (plainElem Try.prog 3) w.heap.size 1 M := by rw [← hwd]; exact h
            have h2 := (h1.kept hG0 (by simp)).kept hgr (fun e => by
              have hlt := h1.lt
              cases hv : wv.ownBlock with
              | none => rw [hv] at e; cases e
              | some g' =>
                rw [hv] at e
                have := (owns_own how1 g' hv).1
                simp only [Option.some.injEq] at e
                omega)
            rw [← hV3]
            exact h2.setCell (a := ⟨gg, 1, none⟩) (by simp; omega) _
          have BX2 : Below w.heap.size w V3 := by
            rw [← hV3]
            exact (((BX.trans (hB0.mono BX.size)).trans (hB1.mono (Nat.le_trans BX.size hB0.size))).grown hgr (by omega) (fun g' hg' => by have := (owns_own how1 g' hg').1; omega)).setCell (p := ⟨gg, 1, none⟩) (Nat.le_of_lt hgB) _
          have hs3 : w.heap.size + 1 ≤ V3.heap.size := by
            rw [← hV3]
            have : (V2.setCell ⟨gg, 1, none⟩ (.slice aA aN aK)).heap.size = V2.heap.size := by simp [World.setCell]
            rw [this]
            exact Nat.le_trans hs1 hgr.size
          have HM3 := Lib.hid (hgm _ hmap)
          have HST := Lib.hid (And.intro bg3 (And.intro how3 hne5))
          have HBX := Lib.hid (And.intro BX2 hs3)
          clear hB0 hB1 bgd b6d bg1 how1 hs1 hgr hloc bg2 bg3 hne5 how2 how3 hG0 hgm BX2 hs3 bg b6 how hmap BX hsx hll
          go_wp2_with fail
          refine wp_region_upto (fun i => ([.slice (some ⟨gg, 0, none⟩) 1 cap, .int .i64 0, .slice (some ⟨gg, 0, none⟩) 1 cap, .int .i64 0, .pointer (some ⟨gg, 0, none⟩), .pointer (some ⟨gg, 1, none⟩), wv, .pointer (some ⟨G6, 0, none⟩), .agg #[.int .i64 a, .int .i64 b], .slice (some ⟨H, 0, none⟩) 1 1, .slice aA aN aK, .pointer (some ⟨gg, 0, none⟩), .pointer (some ⟨gg, 1, none⟩), undef] : List Value).getD i undef) [9, 10, 13] [0, 0, 0, 0, 0, 0, 0, 0, 0, 0, 1, 0, 0, 2] [3, 3, 3, 3, 3, 3, 1, 3, 0, 3, 3, 3, 3, 3] (fun q' w' => (q' = 0 → w' = wd) ∧ (q' = 1 → w' = V1) ∧ (q' = 2 → w' = V2) ∧ (q' = 3 → w' = V3)) (by kernel_rfl) (by kernel_rfl) (by kernel_rfl) (⟨fun _ => hwd, fun h => absurd h (by decide), fun h => absurd h (by decide), fun h => absurd h (by decide)⟩) ?_ ?_
          · refine ObsU_of_ends (by kernel_rfl) ?_
            intro Fr hEA
            refine ⟨?_, ?_, ?_, ?_, ?_, ?_, ?_, ?_, ?_, ?_, ?_, ?_, ?_, ?_, trivial⟩
            · exact obU_move _ rfl (want_none rfl) (by kernel_rfl) (eval_out hEA (d := 3) (by kernel_rfl))
            · exact obU_move _ rfl (want_none rfl) (by kernel_rfl) (eval_out hEA (d := 7) (by kernel_rfl))
            · exact obU_move _ rfl (want_none rfl) (by kernel_rfl) (eval_out hEA (d := 3) (by kernel_rfl))
            · exact obU_move _ rfl (want_none rfl) (by kernel_rfl) (eval_out hEA (d := 7) (by kernel_rfl))
            · refine obU_val (want_none rfl) (by kernel_rfl) (fun ph w' hp hpm hw => ?_)
              have e46 : Fr.tmps[46]? = some (.slice (some ⟨gg, 0, none⟩) 1 cap) := hEA.dst 2 _ 46 rfl rfl; have e47 : Fr.tmps[47]? = some (.int .i64 0) := hEA.dst 3 _ 47 rfl rfl; simp [execOp, e46, e47, go_sem]
            · refine obU_val (want_none rfl) (by kernel_rfl) (fun ph w' hp hpm hw => ?_)
              have e48 : Fr.tmps[48]? = some (.pointer (some ⟨gg, 0, none⟩)) := hEA.dst 4 _ 48 rfl rfl; simp [execOp, e48, go_sem]
            · refine obU_val (want_none rfl) (by kernel_rfl) (fun ph w' hp hpm hw => ?_)
              have hc0 := show w'.cell? ⟨gg, 1, none⟩ = some wv from (by have hph : ph = 0 ∨ ph = 1 := (by have : ph ≤ 1 := hpm; omega); rcases hph with h | h; exact (congrArg (fun z => World.cell? z ⟨gg, 1, none⟩) (hw.1 h)).trans d0; exact (congrArg (fun z => World.cell? z ⟨gg, 1, none⟩) (hw.2.1 h)).trans d1)
              have e49 : Fr.tmps[49]? = some (.pointer (some ⟨gg, 1, none⟩)) := hEA.dst 5 _ 49 rfl rfl; simp [execOp, e49, hc0, go_sem]
            · refine obU_val (want_none rfl) (by kernel_rfl) (fun ph w' hp hpm hw => ?_)
              have e6 : Fr.tmps[6]? = some (.pointer (some ⟨G6, 0, none⟩)) := at_out hEA (d := 6) (by kernel_rfl); simp [execOp, e6, go_sem]
            · refine obU_val (want_none rfl) (by kernel_rfl) (fun ph w' hp hpm hw => ?_)
              have hc0 := show w'.cell? ⟨G6, 0, none⟩ = _ from (congrArg (fun z => World.cell? z ⟨G6, 0, none⟩) (hw.1 (Nat.le_zero.1 (show ph ≤ 0 from hpm)))).trans d2
              have hc1 := show w'.cell? ⟨G6, 1, none⟩ = _ from (congrArg (fun z => World.cell? z ⟨G6, 1, none⟩) (hw.1 (Nat.le_zero.1 (show ph ≤ 0 from hpm)))).trans d3
              have e51 : Fr.tmps[51]? = some (.pointer (some ⟨G6, 0, none⟩)) := hEA.dst 7 _ 51 rfl rfl; simp [execOp, e51, hc0, hc1, go_sem]
            · refine obU_make (q := 0) (want_none rfl) (by kernel_rfl) (fun w' hw => ?_)
              have e52 : Fr.tmps[52]? = some (.agg #[.int .i64 a, .int .i64 b]) := hEA.dst 8 _ 52 rfl rfl; 
              have hwe := hw.1 rfl
              subst hwe
              exact ⟨V1, by rw [← hV1, ← hH]; simp [execOp, e52, go_sem], fun h => absurd h (by decide), fun _ => rfl, fun h => absurd h (by decide), fun h => absurd h (by decide)⟩
            · refine obU_make (q := 1) (want_none rfl) (by kernel_rfl) (fun w' hw => ?_)
              have e50 : Fr.tmps[50]? = some (wv) := hEA.dst 6 _ 50 rfl rfl; have e53 : Fr.tmps[53]? = some (.slice (some ⟨H, 0, none⟩) 1 1) := hEA.dst 9 _ 53 rfl rfl; 
              have hwe := hw.2.1 rfl
              subst hwe
              refine ⟨V2, ?_, fun h => absurd h (by decide), fun h => absurd h (by decide), fun _ => rfl, fun h => absurd h (by decide)⟩
              unfold execOp
              simp only [resolve, invoke, builtin, Act.eval, Sem.run_bind, Sem.run_pure, Result.andThen_ok, List.map_toArray, List.map_cons, List.map_nil, Array.getD_eq_getD_getElem?, e50, e53, Option.getD_some, hrun]
              rfl
            · refine obU_val (want_none rfl) (by kernel_rfl) (fun ph w' hp hpm hw => ?_)
              have e44 : Fr.tmps[44]? = some (.slice (some ⟨gg, 0, none⟩) 1 cap) := hEA.dst 0 _ 44 rfl rfl; have e45 : Fr.tmps[45]? = some (.int .i64 0) := hEA.dst 1 _ 45 rfl rfl; simp [execOp, e44, e45, go_sem]
            · refine obU_val (want_none rfl) (by kernel_rfl) (fun ph w' hp hpm hw => ?_)
              have e55 : Fr.tmps[55]? = some (.pointer (some ⟨gg, 0, none⟩)) := hEA.dst 11 _ 55 rfl rfl; simp [execOp, e55, go_sem]
            · refine obU_store (q := 2) rfl (want_none rfl) (by kernel_rfl) (fun w' hw => ?_)
              have e56 : Fr.tmps[56]? = some (.pointer (some ⟨gg, 1, none⟩)) := hEA.dst 12 _ 56 rfl rfl; have e54 : Fr.tmps[54]? = some (.slice aA aN aK) := hEA.dst 10 _ 54 rfl rfl; 
              have hwe := hw.2.2.1 rfl
              subst hwe
              exact ⟨V3, by rw [← hV3]; simp [execOp, e56, e54, d4, f4, go_sem], fun h => absurd h (by decide), fun h => absurd h (by decide), fun h => absurd h (by decide), fun _ => rfl⟩
          · intro w' hw
            simp only [laid, Act.put, List.setIfInBounds_toArray, List.set_cons_succ, List.set_cons_zero, List.getD_cons_succ, List.getD_cons_zero, Nat.zero_add, Nat.reduceAdd]
            have hwe := hw.2.2.2 rfl
            subst hwe
            clear hV1 hV3 hH hwd d0 d1 d2 d3 d4 f4 hrun
            have hnv := HNE.out
            subst hnv
            go_wp2
            go_roundw
            case rel => exact ⟨k + 1, _, rfl, by omega, by go_num, HBX.out.1, HBX.out.2, by rw [HSN.out, HKS.out]; exact Or.inr ⟨by simp, gg, cap, tA, tN, tK, .slice aA aN aK, rfl, hc1, hcm, hgB, HST.out.1, by simpa [hwho] using HST.out.2.1, HST.out.2.2, HM3.out, HSY.out⟩⟩
            case measure => simp [intOf]; omega
        · have hisk := keyLaw.key hkey
          have hh : Maps.has (DataW.put (.map [] : DataW Unit) kl (.lit (.int .i64 0))) kl = true := Maps.has_put_same Maps.isMap_empty hisk _
          have hat0 := Maps.atKey_put_same (Maps.isMap_empty (H := Unit)) hisk (.lit (.int .i64 0)) (.lit (.int .i64 0))
          have hll : ((keyedO (fs.take k)).map (·.who)).length ≤ 1000 := by
            rw [List.length_map]
            exact Nat.le_trans (List.length_filter_le _ _) (by rw [List.length_take]; have := HL.out; omega)
          have HKS := Lib.hid hks
          have HSQ := Lib.hid hsp
          have BX := BB
          have hsx := hs2
          clear hks hsp BB hs2 HSY
          have q6 := b6.c 6 _ rfl
          have q7 := b6.c 7 _ rfl
          have q8 := b6.c 8 _ rfl
          go_wp2_with (at_lookup; refine wpList_lookup_own_ok_int _ rfl _ _ 63 rfl 30 3 .i64 keyLaw Try.underlying63 Try.underlying3 (zeroI _) w.heap.size 1 (DataW.put (.map []) kl (.lit (.int .i64 0))) rfl hmap _ kl rfl hkey ?_)
          intro _
          clear hat0 q6 q7 q8
          go_wp2_with fail
          obtain ⟨wd, hwd⟩ : ∃ wd, W2.drew = wd := ⟨_, rfl⟩
          have hB0 : Below W2.heap.size W2 wd := by rw [← hwd]; exact ⟨rfl, rfl, rfl, Nat.le_refl _, fun _ _ => rfl⟩
          have bgd := bg.next hB0
          have b6d := b6.next hB0
          have d0 := bgd.c 1 _ rfl
          have d2 := b6d.c 0 _ rfl
          have d3 := b6d.c 1 _ rfl
          obtain ⟨H, hH⟩ : ∃ H, wd.heap.size = H := ⟨_, rfl⟩
          obtain ⟨V1, hV1⟩ : ∃ V, wd.alloc (.cells #[.int .i64 a, .int .i64 b] 27) = V := ⟨_, rfl⟩
          have hB1 : Below wd.heap.size wd V1 := by rw [← hV1]; exact below_new _ _
          have bg1 := bgd.next hB1
          have d1 := bg1.c 1 _ rfl
          have how1 := owns_below (owns_below how hB0) hB1
          have hs1 : w.heap.size + 1 ≤ V1.heap.size := Nat.le_trans hsx (Nat.le_trans hB0.size hB1.size)
          obtain ⟨v5, V2, hrun, how2, hgr, hloc⟩ := run_mem 22 V1 (w.heap.size + 1) wv _ _ how1 H a b (by rw [← hV1, ← hH]; exact ⟨(Box.new wd [.int .i64 a, .int .i64 b] _).c 0 _ rfl, (Box.new wd [.int .i64 a, .int .i64 b] _).c 1 _ rfl⟩) hll hs1
          obtain ⟨aA, aN, aK, rfl⟩ : ∃ aA aN aK, v5 = Value.slice aA aN aK := by
            rcases how2.2 with ⟨hv, _⟩ | ⟨_, _, _, hv, _⟩
            · exact ⟨_, _, _, hv⟩
            · exact ⟨_, _, _, hv⟩
          have bg2 := bg1.keep (hgr.block gg bg1.lt (fun e => hne e.symm))
          have d4 := bg2.c 1 _ rfl
          have f4 := bg2.f 1 (by simp)
          obtain ⟨V3, hV3⟩ : ∃ V, V2.setCell ⟨gg, 1, none⟩ (.slice aA aN aK) = V := ⟨_, rfl⟩
          have bg3 : Box V3 gg [.slice tA2 tN2 tK2, .slice aA aN aK] := by rw [← hV3]; exact bg2.put 1 (.slice aA aN aK)
          have hne5 : (Value.slice aA aN aK).ownBlock ≠ some gg := by
            rcases hloc with h | h
            · rw [h]; exact hne
            · rw [h]
              intro e
              have := bg1.lt
              simp only [Option.some.injEq] at e
              omega
          have how3 := owns_block (w' := V3) how2 (fun g' hg' => by
            have : g' ≠ gg := fun e => hne5 (by rw [hg', e])
            rw [← hV3]
            exact Below.heap_setCell _ _ _ _ this)
          have hG0 : wd.grownBy V1 none := by rw [← hV1]; exact World.grownBy_alloc _ _ _
          have hgm : ∀ M, W2.ownsMap (H := Unit) Try.prog 30 (plainElem Try.prog 3) w.heap.size 1 M → V3.ownsMap Try.prog 30 (plainElem Try.prog 3) w.heap.size 1 M := by
            intro M h
            have h1 : wd.ownsMap Try.prog 30 (plainElem Try.prog 3) w.heap.size 1 M := by rw [← hwd]; exact h
            have h2 := (h1.kept hG0 (by simp)).kept hgr (fun e => by
              have hlt := h1.lt
              cases hv : wv.ownBlock with
              | none => rw [hv] at e; cases e
              | some g' =>
                rw [hv] at e
                have := (owns_own how1 g' hv).1
                simp only [Option.some.injEq] at e
                omega)
            rw [← hV3]
            exact h2.setCell (a := ⟨gg, 1, none⟩) (by simp; omega) _
          have BX2 : Below w.heap.size w V3 := by
            rw [← hV3]
            exact (((BX.trans (hB0.mono BX.size)).trans (hB1.mono (Nat.le_trans BX.size hB0.size))).grown hgr (by omega) (fun g' hg' => by have := (owns_own how1 g' hg').1; omega)).setCell (p := ⟨gg, 1, none⟩) (Nat.le_of_lt hgB) _
          have hs3 : w.heap.size + 1 ≤ V3.heap.size := by
            rw [← hV3]
            have : (V2.setCell ⟨gg, 1, none⟩ (.slice aA aN aK)).heap.size = V2.heap.size := by simp [World.setCell]
            rw [this]
            exact Nat.le_trans hs1 hgr.size
          have HM3 := Lib.hid (hgm _ hmap)
          have HST := Lib.hid (And.intro bg3 (And.intro how3 hne5))
          have HBX := Lib.hid (And.intro BX2 hs3)
          clear hB0 hB1 bgd b6d bg1 how1 hs1 hgr hloc bg2 bg3 hne5 how2 how3 hG0 hgm BX2 hs3 bg b6 how hmap BX hsx hll
          go_wp2_with fail
          refine wp_region_upto (fun i => ([.slice (some ⟨gg, 0, none⟩) 1 cap, .int .i64 0, .slice (some ⟨gg, 0, none⟩) 1 cap, .int .i64 0, .pointer (some ⟨gg, 0, none⟩), .pointer (some ⟨gg, 1, none⟩), wv, .pointer (some ⟨G6, 0, none⟩), .agg #[.int .i64 a, .int .i64 b], .slice (some ⟨H, 0, none⟩) 1 1, .slice aA aN aK, .pointer (some ⟨gg, 0, none⟩), .pointer (some ⟨gg, 1, none⟩), undef] : List Value).getD i undef) [9, 10, 13] [0, 0, 0, 0, 0, 0, 0, 0, 0, 0, 1, 0, 0, 2] [3, 3, 3, 3, 3, 3, 1, 3, 0, 3, 3, 3, 3, 3] (fun q' w' => (q' = 0 → w' = wd) ∧ (q' = 1 → w' = V1) ∧ (q' = 2 → w' = V2) ∧ (q' = 3 → w' = V3)) (by kernel_rfl) (by kernel_rfl) (by kernel_rfl) (⟨fun _ => hwd, fun h => absurd h (by decide), fun h => absurd h (by decide), fun h => absurd h (by decide)⟩) ?_ ?_
          · refine ObsU_of_ends (by kernel_rfl) ?_
            intro Fr hEA
            refine ⟨?_, ?_, ?_, ?_, ?_, ?_, ?_, ?_, ?_, ?_, ?_, ?_, ?_, ?_, trivial⟩
            · exact obU_move _ rfl (want_none rfl) (by kernel_rfl) (eval_out hEA (d := 3) (by kernel_rfl))
            · exact obU_move _ rfl (want_none rfl) (by kernel_rfl) (eval_out hEA (d := 7) (by kernel_rfl))
            · exact obU_move _ rfl (want_none rfl) (by kernel_rfl) (eval_out hEA (d := 3) (by kernel_rfl))
            · exact obU_move _ rfl (want_none rfl) (by kernel_rfl) (eval_out hEA (d := 7) (by kernel_rfl))
            · refine obU_val (want_none rfl) (by kernel_rfl) (fun ph w' hp hpm hw => ?_)
              have e46 : Fr.tmps[46]? = some (.slice (some ⟨gg, 0, none⟩) 1 cap) := hEA.dst 2 _ 46 rfl rfl; have e47 : Fr.tmps[47]? = some (.int .i64 0) := hEA.dst 3 _ 47 rfl rfl; simp [execOp, e46, e47, go_sem]
            · refine obU_val (want_none rfl) (by kernel_rfl) (fun ph w' hp hpm hw => ?_)
              have e48 : Fr.tmps[48]? = some (.pointer (some ⟨gg, 0, none⟩)) := hEA.dst 4 _ 48 rfl rfl; simp [execOp, e48, go_sem]
            · refine obU_val (want_none rfl) (by kernel_rfl) (fun ph w' hp hpm hw => ?_)
              have hc0 := show w'.cell? ⟨gg, 1, none⟩ = some wv from (by have hph : ph = 0 ∨ ph = 1 := (by have : ph ≤ 1 := hpm; omega); rcases hph with h | h; exact (congrArg (fun z => World.cell? z ⟨gg, 1, none⟩) (hw.1 h)).trans d0; exact (congrArg (fun z => World.cell? z ⟨gg, 1, none⟩) (hw.2.1 h)).trans d1)
              have e49 : Fr.tmps[49]? = some (.pointer (some ⟨gg, 1, none⟩)) := hEA.dst 5 _ 49 rfl rfl; simp [execOp, e49, hc0, go_sem]
            · refine obU_val (want_none rfl) (by kernel_rfl) (fun ph w' hp hpm hw => ?_)
              have e6 : Fr.tmps[6]? = some (.pointer (some ⟨G6, 0, none⟩)) := at_out hEA (d := 6) (by kernel_rfl); simp [execOp, e6, go_sem]
            · refine obU_val (want_none rfl) (by kernel_rfl) (fun ph w' hp hpm hw => ?_)
              have hc0 := show w'.cell? ⟨G6, 0, none⟩ = _ from (congrArg (fun z => World.cell? z ⟨G6, 0, none⟩) (hw.1 (Nat.le_zero.1 (show ph ≤ 0 from hpm)))).trans d2
              have hc1 := show w'.cell? ⟨G6, 1, none⟩ = _ from (congrArg (fun z => World.cell? z ⟨G6, 1, none⟩) (hw.1 (Nat.le_zero.1 (show ph ≤ 0 from hpm)))).trans d3
              have e51 : Fr.tmps[51]? = some (.pointer (some ⟨G6, 0, none⟩)) := hEA.dst 7 _ 51 rfl rfl; simp [execOp, e51, hc0, hc1, go_sem]
            · refine obU_make (q := 0) (want_none rfl) (by kernel_rfl) (fun w' hw => ?_)
              have e52 : Fr.tmps[52]? = some (.agg #[.int .i64 a, .int .i64 b]) := hEA.dst 8 _ 52 rfl rfl; 
              have hwe := hw.1 rfl
              subst hwe
              exact ⟨V1, by rw [← hV1, ← hH]; simp [execOp, e52, go_sem], fun h => absurd h (by decide), fun _ => rfl, fun h => absurd h (by decide), fun h => absurd h (by decide)⟩
            · refine obU_make (q := 1) (want_none rfl) (by kernel_rfl) (fun w' hw => ?_)
              have e50 : Fr.tmps[50]? = some (wv) := hEA.dst 6 _ 50 rfl rfl; have e53 : Fr.tmps[53]? = some (.slice (some ⟨H, 0, none⟩) 1 1) := hEA.dst 9 _ 53 rfl rfl; 
              have hwe := hw.2.1 rfl
              subst hwe
              refine ⟨V2, ?_, fun h => absurd h (by decide), fun h => absurd h (by decide), fun _ => rfl, fun h => absurd h (by decide)⟩
              unfold execOp
              simp only [resolve, invoke, builtin, Act.eval, Sem.run_bind, Sem.run_pure, Result.andThen_ok, List.map_toArray, List.map_cons, List.map_nil, Array.getD_eq_getD_getElem?, e50, e53, Option.getD_some, hrun]
              rfl
            · refine obU_val (want_none rfl) (by kernel_rfl) (fun ph w' hp hpm hw => ?_)
              have e44 : Fr.tmps[44]? = some (.slice (some ⟨gg, 0, none⟩) 1 cap) := hEA.dst 0 _ 44 rfl rfl; have e45 : Fr.tmps[45]? = some (.int .i64 0) := hEA.dst 1 _ 45 rfl rfl; simp [execOp, e44, e45, go_sem]
            · refine obU_val (want_none rfl) (by kernel_rfl) (fun ph w' hp hpm hw => ?_)
              have e55 : Fr.tmps[55]? = some (.pointer (some ⟨gg, 0, none⟩)) := hEA.dst 11 _ 55 rfl rfl; simp [execOp, e55, go_sem]
            · refine obU_store (q := 2) rfl (want_none rfl) (by kernel_rfl) (fun w' hw => ?_)
              have e56 : Fr.tmps[56]? = some (.pointer (some ⟨gg, 1, none⟩)) := hEA.dst 12 _ 56 rfl rfl; have e54 : Fr.tmps[54]? = some (.slice aA aN aK) := hEA.dst 10 _ 54 rfl rfl; 
              have hwe := hw.2.2.1 rfl
              subst hwe
              exact ⟨V3, by rw [← hV3]; simp [execOp, e56, e54, d4, f4, go_sem], fun h => absurd h (by decide), fun h => absurd h (by decide), fun h => absurd h (by decide), fun _ => rfl⟩
          · intro w' hw
            simp only [laid, Act.put, List.setIfInBounds_toArray, List.set_cons_succ, List.set_cons_zero, List.getD_cons_succ, List.getD_cons_zero, Nat.zero_add, Nat.reduceAdd]
            have hwe := hw.2.2.2 rfl
            subst hwe
            clear hV1 hV3 hH hwd d0 d1 d2 d3 d4 f4 hrun
            go_wp2
            go_roundw
            case rel => exact ⟨k + 1, _, rfl, by omega, by go_num, HBX.out.1, HBX.out.2, by rw [HSN.out]; exact Or.inr ⟨by simp, gg, cap, tA2, tN2, tK2, .slice aA aN aK, rfl, hc1, hcm, hgB, HST.out.1, by simpa [hwho] using HST.out.2.1, HST.out.2.2, HM3.out, HSQ.out⟩⟩
            case measure => simp [intOf]; omega
      · rw [hz] at hz0
        have hez : ((i1, i2, i3) : Int × Int × Int) = (0, 0, 0) := of_decide_eq_true hz0.symm
        have HKE : Hid (keyedO (fs.take (k + 1)) = keyedO (fs.take k)) := Lib.hid (by
          have h := HF.out.1
          rw [hez, if_neg (by simp), List.append_nil] at h
          exact h)
        have HGY := Lib.hid hGy
        clear hz0 hz hez HF hGy HSp0
        go_wp2
        go_roundw
        case rel => exact ⟨k + 1, _, rfl, by omega, by go_num, BB, hs2, by rw [HKE.out]; exact HGY.out⟩
        case measure => simp [intOf]; omega
    · have hd : decide (k < hs.length) = false := by simpa using hlt
      have hkk : fs.take k = fs := List.take_of_length_le (by have := HL.out; omega)
      rw [hkk] at hG
      have HG := Lib.hid hG
      obtain ⟨g', c', n', rfl⟩ : ∃ ao n' cap, _ = Value.slice ao n' cap := by
        rcases hG with ⟨-, hv, -⟩ | ⟨-, gg, cap, -, -, -, -, hv, -⟩
        · exact ⟨_, _, _, hv⟩
        · exact ⟨_, _, _, hv⟩
      clear hkk hG
      go_wp2
      go_ret
      exact ⟨_, kl, rfl, HG.out, B⟩

end Go.Proofs.Ytkmlnglmecjmeaa
