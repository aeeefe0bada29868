import Derived.Test.YtlmkgkfildgkgaaTreeE
import Derived.Deep.QuietTactic
import Derived.BigQuiet
/- Leaves of spots, whether each may be, whether lists are the same; lodge/tree's and the document's. Condition: the slices read as spots (members), of at most a million. -/
namespace Go.Proofs.Ytlmkgkfildgkgaa
open Go.RowKit
set_option linter.unusedVariables false

abbrev mC (m : Int × Int) : List Value := [.int .i64 m.1, .int .i64 m.2]
theorem infoS : (Try.prog.info? 41).map (fun i => (i.zero, i.size, i.bytes)) = some (some (.agg #[.bool false, .int .i64 0, .int .i64 0]), 3, 24) := by kernel_rfl
theorem infoM : (Try.prog.info? 26).map (fun i => (i.zero, i.size, i.bytes)) = some (some (.agg #[.int .i64 0, .int .i64 0]), 2, 16) := by kernel_rfl
theorem oneS (a : Sp) : ∀ u ∈ spC a, u.oneCell' = true := by intro u hu; simp at hu; rcases hu with rfl | rfl | rfl <;> rfl
theorem oneM (a : Int × Int) : ∀ u ∈ mC a, u.oneCell' = true := by intro u hu; simp at hu; rcases hu with rfl | rfl <;> rfl
/-- append onto spots of one's own. -/
theorem append_spots {ops : Array Oper} {rest : List Oper} {o : Oper} {a : Act} {Q : Exit → Act → World → Prop} (w : World) (hw : Region.wanted o (yielded ops a.tmps) = true) (so x : Operand)
    (ho : o.op = .call { callee := .builtin .append, args := #[so, x], argTypes := #[22, 22] })
    (base : Nat) (v : Value) (n : Nat) (ys : List Value) (hv : a.eval so = v) (hown : w.ownsRow base 41 3 v n ys)
    (n₀ : Nat) (V : Value) (xs : List Sp) (hx : a.eval x = V) (hL : Spots n₀ w xs [V]) (hb : n + xs.length ≤ 4000000) (hbase : base ≤ w.heap.size)
    (h : ∀ v' w', w'.ownsRow base 41 3 v' (n + xs.length) (ys ++ xs.flatMap spC) → w.grownBy w' v.ownBlock → wpList Try.prog ops Q rest (a.put o.dst v') w') : wpList Try.prog ops Q (o :: rest) a w :=
  append_slice (enc := spC) (s := 3) (R := IsS) (fun _ _ _ _ h => h) (by decide) (fun _ => rfl) oneS Try.underlying22 infoS rfl w hw so x ho base v n ys hv hown n₀ V xs hx hL (Nat.le_trans hb (by decide)) (by omega) hbase h
/-- append onto members of one's own. -/
theorem append_mems {ops : Array Oper} {rest : List Oper} {o : Oper} {a : Act} {Q : Exit → Act → World → Prop} (w : World) (hw : Region.wanted o (yielded ops a.tmps) = true) (so x : Operand)
    (ho : o.op = .call { callee := .builtin .append, args := #[so, x], argTypes := #[35, 35] })
    (base : Nat) (v : Value) (n : Nat) (ys : List Value) (hv : a.eval so = v) (hown : w.ownsRow base 26 2 v n ys)
    (n₀ : Nat) (V : Value) (xs : List (Int × Int)) (hx : a.eval x = V) (hL : Mems n₀ w xs [V]) (hb : n + xs.length ≤ 4000000) (hbase : base ≤ w.heap.size)
    (h : ∀ v' w', w'.ownsRow base 26 2 v' (n + xs.length) (ys ++ xs.flatMap mC) → w.grownBy w' v.ownBlock → wpList Try.prog ops Q rest (a.put o.dst v') w') : wpList Try.prog ops Q (o :: rest) a w :=
  append_slice (enc := mC) (s := 2) (R := IsM) (fun _ _ _ _ h => h) (by decide) (fun _ => rfl) oneM Try.underlying35 infoM rfl w hw so x ho base v n ys hv hown n₀ V xs hx hL (Nat.le_trans hb (by decide)) (by omega) hbase h
theorem own_mems {w : World} {base : Nat} {v : Value} {xs : List (Int × Int)} (h : w.ownsRow base 26 2 v xs.length (xs.flatMap mC)) : Mems w.heap.size w xs [v] := own_reads (enc := mC) (s := 2) (R := IsM) (fun _ _ _ => rfl) (by decide) (fun _ => rfl) h
theorem own_spots {w : World} {base : Nat} {v : Value} {xs : List Sp} (h : w.ownsRow base 41 3 v xs.length (xs.flatMap spC)) : Spots w.heap.size w xs [v] := own_reads (enc := spC) (s := 3) (R := IsS) (fun _ _ _ => rfl) (by decide) (fun _ => rfl) h
/-- One element, laid by itself. -/
theorem one_mem (w : World) (a b : Int) (t : TypeId) (g : Nat) (hg : w.heap.size = g) : Mems (g + 1) (w.alloc (.cells #[.int .i64 a, .int .i64 b] t)) [(a, b)] [.slice (some ⟨g, 0, none⟩) 1 1] := by
  subst hg
  exact ⟨some ⟨w.heap.size, 0, none⟩, 1, rfl, Nat.le_refl _, by decide, (fun h => by cases h), fun _ => ⟨w.heap.size, 0, rfl, by omega, fun i hi => ⟨mC (a, b), rfl, fun j hj => by
    have : i = 0 := by simpa using hi
    subst this
    simp, by
    have : i = 0 := by simpa using hi
    subst this
    rfl⟩⟩⟩
theorem one_spot (w : World) (s : Sp) (t : TypeId) (g : Nat) (hg : w.heap.size = g) : Spots (g + 1) (w.alloc (.cells #[.bool s.1, .int .i64 s.2.1, .int .i64 s.2.2] t)) [s] [.slice (some ⟨g, 0, none⟩) 1 1] := by
  subst hg
  exact ⟨some ⟨w.heap.size, 0, none⟩, 1, rfl, Nat.le_refl _, by decide, (fun h => by cases h), fun _ => ⟨w.heap.size, 0, rfl, by omega, fun i hi => ⟨spC s, rfl, fun j hj => by
    have : i = 0 := by simpa using hi
    subst this
    simp, by
    have : i = 0 := by simpa using hi
    subst this
    rfl⟩⟩⟩
theorem lv_take_succ (xs : List Sp) (k : Nat) (h : k < xs.length) : lv (xs.take (k + 1)) = lv (xs.take k) ++ (if xs[k].1 then [xs[k].2] else []) := by
  rw [List.take_succ_eq_append_getElem h, lv_append]
  congr 1
  unfold lv
  cases hb : xs[k].1 <;> simp [hb]
theorem lv_take_le (xs : List Sp) (k : Nat) : (lv (xs.take k)).length ≤ k := by
  have h1 := lv_length_le (xs.take k)
  have h2 := List.length_take_le k xs
  omega

set_option maxRecDepth 100000 in
set_option maxHeartbeats 4000000 in
theorem refLeaves_own (v : Value) (xs : List Sp) (w : World) (h : Spots w.heap.size w xs [v]) (hn : xs.length ≤ 1000000) :
    Calls Try.prog 13 #[v] w fun e W' => ∃ v', e = .returned v' ∧ W'.ownsRow w.heap.size 26 2 v' (lv xs).length ((lv xs).flatMap mC) ∧ Below w.heap.size w W' := by
  obtain ⟨A, cap, rfl, hlc, hcm, hp⟩ := spots_at h
  have HP := Lib.hid hp
  have hcm2 : cap ≤ 9223372036854775807 := Nat.le_trans hcm (by decide)
  clear hp h hcm
  go_enter Try.func13, Try.ntmps13
  go_wp2_with fail
  go_loopw [3, 4] (fun u i wr => ∃ k : Nat, k ≤ xs.length ∧ i = .int .i64 k ∧ wr.ownsRow w.heap.size 26 2 u (lv (xs.take k)).length ((lv (xs.take k)).flatMap mC) ∧ Below w.heap.size w wr) (fun _ i _ => xs.length - (intOf i).toNat)
  case atStart => exact ⟨0, Nat.zero_le _, rfl, World.ownsRow_nil _ _ _ _, Below.refl _ _⟩
  case round =>
    obtain ⟨k, hk, rfl, hown, B⟩ := hrel
    by_cases hlt : k < xs.length
    · have hd : decide (k < xs.length) = true := by simpa using hlt
      have hi : (k : Int) < (xs.length : Int) := by omega
      have hge : (0 : Int) ≤ (k : Int) := by omega
      obtain ⟨g, off, rfl, hbn, hc0, hc1, hc2⟩ := HP.out k hlt
      have HS := Lib.hid (lv_take_succ xs k hlt)
      have k0 := (B.cell (p := ⟨g, off + k * 3, none⟩) hbn).trans hc0
      have k1 := (B.cell (p := ⟨g, off + k * 3 + 1, none⟩) hbn).trans hc1
      have k2 := (B.cell (p := ⟨g, off + k * 3 + 2, none⟩) hbn).trans hc2
      clear hc0 hc1 hc2
      obtain ⟨⟨b, x, y⟩, hb⟩ : ∃ b, xs[k] = b := ⟨_, rfl⟩
      have HB := Lib.hid hb
      rw [hb] at k0 k1 k2
      clear hb
      simp only at k0 k1 k2
      have hll := lv_take_le xs k
      cases b
      · go_wp2
        go_roundw
        case rel => exact ⟨k + 1, by omega, by go_num, by rw [HS.out, HB.out]; simpa using hown, B⟩
        case measure => simp [intOf]; omega
      · go_wp2_with (at_builtin; refine append_mems _ rfl _ _ rfl w.heap.size _ _ _ rfl (hown.alloc _) _ _ _ rfl (one_mem _ _ _ _ _ (by simp)) ?c1 ?c2 ?_)
        case c1 => simp; omega
        case c2 => have := B.size; simp; omega
        intro v' w' hown' hgr
        have B2 := (B.alloc B.size (.cells #[.int .i64 x, .int .i64 y] 26)).grown hgr (by have := B.size; simp; omega) (fun k hk => (hown.lt k hk).1)
        go_wp2
        go_roundw
        case rel => exact ⟨k + 1, by omega, by go_num, by rw [HS.out, HB.out]; simpa using hown', B2⟩
        case measure => simp [intOf]; omega
    · have hd : decide (k < xs.length) = false := by simpa using hlt
      have hkk : xs.take k = xs := List.take_of_length_le (by omega)
      rw [hkk] at hown
      obtain ⟨g', c', n', rfl⟩ : ∃ ao n' cap, _ = Value.slice ao n' cap := by
        rcases hown.2 with ⟨hv, _⟩ | ⟨g, cap, cur, hv, _⟩
        · exact ⟨_, _, _, hv⟩
        · exact ⟨_, _, _, hv⟩
      clear hkk
      go_wp2
      go_ret
      exact ⟨_, rfl, hown, B⟩
theorem refLeaves_any (v : Value) (xs : List Sp) (w : World) (h : Spots w.heap.size w xs [v]) (hn : xs.length ≤ 1000000) :
    Calls Try.prog 13 #[v] w fun e W' => ∃ v', e = .returned v' ∧ Mems W'.heap.size W' (lv xs) [v'] ∧ Below w.heap.size w W' :=
  (refLeaves_own v xs w h hn).mono fun e W' ⟨v', h1, h2, h3⟩ => ⟨v', h1, own_mems h2, h3⟩

set_option maxRecDepth 100000 in
set_option maxHeartbeats 4000000 in
theorem leaves_any (v : Value) (xs : List Sp) (w : World) (h : Spots w.heap.size w xs [v]) (hn : xs.length ≤ 1000000) :
    Calls Try.prog 20 #[v] w fun e W' => ∃ v', e = .returned v' ∧ Mems W'.heap.size W' (lv xs) [v'] ∧ Below w.heap.size w W' := by
  obtain ⟨A, cap, rfl, hlc, hcm, hp⟩ := spots_at h
  have HP := Lib.hid hp
  have hcm2 : cap ≤ 9223372036854775807 := Nat.le_trans hcm (by decide)
  clear hp h hcm
  go_enter Try.func20, Try.ntmps20
  go_wp2_with fail
  go_loopw [3, 8] (fun u i wr => ∃ k : Nat, k ≤ xs.length ∧ i = .int .i64 k ∧ wr.ownsRow w.heap.size 26 2 u (lv (xs.take k)).length ((lv (xs.take k)).flatMap mC) ∧ Below w.heap.size w wr) (fun _ i _ => xs.length - (intOf i).toNat)
  case atStart => exact ⟨0, Nat.zero_le _, rfl, World.ownsRow_nil _ _ _ _, Below.refl _ _⟩
  case round =>
    obtain ⟨k, hk, rfl, hown, B⟩ := hrel
    by_cases hlt : k < xs.length
    · have hd : decide (k < xs.length) = true := by simpa using hlt
      have hi : (k : Int) < (xs.length : Int) := by omega
      have hge : (0 : Int) ≤ (k : Int) := by omega
      obtain ⟨g, off, rfl, hbn, hc0, hc1, hc2⟩ := HP.out k hlt
      have k0 := (B.cell (p := ⟨g, off + k * 3, none⟩) hbn).trans hc0
      have k1 := (B.cell (p := ⟨g, off + k * 3 + 1, none⟩) hbn).trans hc1
      have k2 := (B.cell (p := ⟨g, off + k * 3 + 2, none⟩) hbn).trans hc2
      clear hc0 hc1 hc2
      obtain ⟨⟨b, x, y⟩, hb⟩ : ∃ b, xs[k] = b := ⟨_, rfl⟩
      have HB := Lib.hid hb
      rw [hb] at k0 k1 k2
      clear hb
      simp only at k0 k1 k2
      have HS := Lib.hid (lv_take_succ xs k hlt)
      have hll := lv_take_le xs k
      cases b
      · go_wp2
        go_roundw
        case rel => exact ⟨k + 1, by omega, by go_num, by rw [HS.out, HB.out]; simpa using hown.alloc _, B.alloc B.size _⟩
        case measure => simp [intOf]; omega
      · go_wp2_with (at_builtin; refine append_mems _ rfl _ _ rfl w.heap.size _ _ _ rfl ((hown.alloc _).alloc _) _ _ _ rfl (one_mem _ _ _ _ _ (by simp)) ?c1 ?c2 ?_)
        case c1 => simp; omega
        case c2 => have := B.size; simp; omega
        intro v' w' hown' hgr
        have B1 := B.alloc B.size (.cells #[.bool true, .int .i64 x, .int .i64 y] 41)
        have B2 := (B1.alloc B1.size (.cells #[.int .i64 x, .int .i64 y] 26)).grown hgr (by have := B.size; simp; omega) (fun k hk => (hown.lt k hk).1)
        go_wp2
        go_roundw
        case rel => exact ⟨k + 1, by omega, by go_num, by rw [HS.out, HB.out]; simpa using hown', B2⟩
        case measure => simp [intOf]; omega
    · have hd : decide (k < xs.length) = false := by simpa using hlt
      have hkk : xs.take k = xs := List.take_of_length_le (by omega)
      rw [hkk] at hown
      obtain ⟨g', c', n', rfl⟩ : ∃ ao n' cap, _ = Value.slice ao n' cap := by
        rcases hown.2 with ⟨hv, _⟩ | ⟨g, cap, cur, hv, _⟩
        · exact ⟨_, _, _, hv⟩
        · exact ⟨_, _, _, hv⟩
      clear hkk
      go_wp2
      go_ret
      exact ⟨_, rfl, own_mems hown, B⟩

theorem all_take_succ (xs : List Sp) (k : Nat) (h : k < xs.length) : (xs.take (k + 1)).all noWho = ((xs.take k).all noWho && noWho xs[k]) := by
  rw [List.take_succ_eq_append_getElem h, List.all_append]
  simp only [List.all_cons, List.all_nil, Bool.and_true]
theorem all_not (xs : List Sp) (k : Nat) (h : k < xs.length) (hb : noWho xs[k] = false) : xs.all noWho = false := by
  rw [List.all_eq_false]
  exact ⟨xs[k], List.getElem_mem h, by rw [hb]; simp⟩



end Go.Proofs.Ytlmkgkfildgkgaa
