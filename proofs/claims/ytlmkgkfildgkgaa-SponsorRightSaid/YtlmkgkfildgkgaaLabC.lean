import Derived.Test.YtlmkgkfildgkgaaLabCA
import Derived.Test.YtlmkgkfildgkgaaLabW
import Derived.Test.YtlmkgkfildgkgaaBoxM
/- The code's Of and Way of layer 10. Condition: the slice reads as a tree's spots, or nothing's, that may be, at most 60 high. -/
namespace Go.Proofs.Ytlmkgkfildgkgaa
open Go Go.RowKit
set_option linter.unusedVariables false

set_option maxRecDepth 100000 in
set_option maxHeartbeats 8000000 in
theorem lOf_none (v : Value) (ot : Option Tr) (m1 m2 : Int) (w : World) (h : Spots w.heap.size w (spo ot) [v]) (hn : (spo ot).length ≤ 1000000) (hof : offO ot (m1, m2) = none) :
    Calls Try.prog 33 #[v, vM m1 m2] w fun e W' => e = .returned (.tuple #[vM 0 0, .bool false]) ∧ Below w.heap.size w W' := by
  have HX := Lib.hid h
  have HI : Hid (∀ w, Spots w.heap.size w (spo ot) [v] → Calls Try.prog 39 #[v, .agg #[.bool true, .int .i64 m1, .int .i64 m2]] w fun e W' => e = .returned (.int .i64 (-1)) ∧ Below w.heap.size w W') := Lib.hid fun w h => by
    have := index_any v (spo ot) (true, m1, m2) w h hn
    rwa [show ixF (true, m1, m2) 0 (spo ot) = -1 from by have e := ixF_spo ot (m1, m2); rw [hof] at e; exact e] at this
  obtain ⟨A, cap, rfl, hlc, hcm, _⟩ := spots_at h
  clear h hof
  go_enter Try.func33, Try.ntmps33
  go_wp2_with fail
  obtain ⟨W0, hW0, b0, b1, B⟩ := new2 w [.int .i64 m1, .int .i64 m2] [.int .i64 0, .int .i64 0] 26 24
  rw [hW0]
  clear hW0
  refine (HI.out W0 (keeps_spots _ _ _ _ _ _ HX.out B B.size)).mono ?_
  rintro e W1 ⟨rfl, hb⟩
  replace b1 := b1.next hb
  replace B := B.trans (hb.mono B.size)
  have r0 := b1.c 0 _ rfl
  have r1 := b1.c 1 _ rfl
  have g0 := b1.f 0 (by decide)
  have g1 := b1.f 1 (by decide)
  have HB := Lib.hid B
  clear b0 b1 B hb
  go_wp2
  (try simp only [Exit.inBlock, Exit.then]); refine bodyPost_ret (v := .tuple #[.agg #[.int .i64 0, .int .i64 0], .bool false]) (by simp [results, Try.results33, go_sem, r0, r1]) rfl ?_
  exact ⟨rfl, (HB.out.setCell (p := ⟨w.heap.size + 1, 0, none⟩) (Nat.le_succ _) _).setCell (p := ⟨w.heap.size + 1, 1, none⟩) (Nat.le_succ _) _⟩

set_option maxRecDepth 100000 in
set_option maxHeartbeats 16000000 in
theorem lOf_some (v : Value) (t : Tr) (m1 m2 : Int) (p : List Bool) (w : World) (h : Spots w.heap.size w (flat t) [v]) (hn : (flat t).length ≤ 1000000) (hh : ht t ≤ 60) (hof : off t (m1, m2) = some p) :
    Calls Try.prog 33 #[v, vM m1 m2] w fun e W' => e = .returned (.tuple #[vM (p.length : Int) (idx p : Int), .bool true]) ∧ Below w.heap.size w W' := by
  have HX := Lib.hid h
  obtain ⟨s, hs⟩ : ∃ s, pos t p = s := ⟨_, rfl⟩
  have HI : Hid (∀ w, Spots w.heap.size w (flat t) [v] → Calls Try.prog 39 #[v, .agg #[.bool true, .int .i64 m1, .int .i64 m2]] w fun e W' => e = .returned (.int .i64 (s : Int)) ∧ Below w.heap.size w W') := Lib.hid fun w h => by
    have := index_any v (flat t) (true, m1, m2) w h hn
    rwa [show ixF (true, m1, m2) 0 (flat t) = (s : Int) from by
      have e := ixF_spo (some t) (m1, m2)
      have e2 : offO (some t) (m1, m2) = some p := hof
      rw [e2] at e
      rw [← hs]
      exact e] at this
  have HST := Lib.hid (On.start hof)
  have HS0 := Lib.hid (show 0 + pos t p = s by omega)
  obtain ⟨A, cap, rfl, hlc, hcm, _⟩ := spots_at h
  have hs1 : s ≤ 1000000 := by have := pos_lt hof; omega
  clear h hof hcm hs
  go_enter Try.func33, Try.ntmps33
  go_wp2_with fail
  obtain ⟨W0, hW0, b0, b1, B⟩ := new2 w [.int .i64 m1, .int .i64 m2] [.int .i64 0, .int .i64 0] 26 24
  rw [hW0]
  clear hW0
  refine (HI.out W0 (keeps_spots _ _ _ _ _ _ HX.out B B.size)).mono ?_
  rintro e W1 ⟨rfl, hb⟩
  replace b1 := b1.next hb
  replace B := B.trans (hb.mono B.size)
  clear b0 hb
  have hsn : ¬ ((s : Int) < 0) := by omega
  go_wp2_with fail
  clear hsn
  obtain ⟨W2, hW2, b7, hb⟩ : ∃ W2, W1.alloc (.cells #[.int .i64 0, .int .i64 0] 24) = W2 ∧ Box W2 W1.heap.size [.int .i64 0, .int .i64 0] ∧ Below W1.heap.size W1 W2 := ⟨_, rfl, Box.new W1 _ _, below_new _ _⟩
  rw [hW2]
  clear hW2
  obtain ⟨G, hG⟩ : ∃ G, W1.heap.size = G := ⟨_, rfl⟩
  rw [hG] at b7
  rw [hG]
  have hG1 : w.heap.size + 1 < G := by rw [← hG]; exact b1.lt
  have hne1 : w.heap.size + 1 ≠ G := by omega
  have hwG : w.heap.size ≤ G := by omega
  replace b1 := b1.next hb
  replace B := B.trans (hb.mono B.size)
  clear hb hG
  go_loopw [8] (fun at_ wr => ∃ (d q : List Bool) (o : Nat) (u : Tr), at_ = .int .i64 (o : Int) ∧ Hid (On t (m1, m2) d q o u) ∧ Hid (p = d ++ q) ∧ Hid (o + pos u q = s) ∧ Box wr G [.int .i64 (d.length : Int), .int .i64 (idx d : Int)] ∧ Box wr (w.heap.size + 1) [.int .i64 0, .int .i64 0] ∧ Below w.heap.size w wr) (fun at_ _ => (flat t).length - (intOf at_).toNat)
  case atStart => exact ⟨[], p, 0, t, rfl, HST, Lib.hid rfl, HS0, b7, b1, B⟩
  case round =>
    rename_i wr
    clear b7 b1 B
    obtain ⟨d, q, o, u, rfl, HO, HP, HS, b7, b1, B⟩ := hrel
    by_cases hq : q = []
    · subst hq
      have ho : (o : Int) = (s : Int) := by have := HS.out; simp [pos, sub_nil] at this; omega
      have HPD : Hid (p = d) := Lib.hid (by rw [HP.out, List.append_nil])
      obtain ⟨k, hk⟩ : ∃ k : Int, (d.length : Int) = k := ⟨_, rfl⟩
      obtain ⟨i, hi⟩ : ∃ i : Int, (idx d : Int) = i := ⟨_, rfl⟩
      rw [hk, hi] at b7
      have HKI : Hid ((p.length : Int) = k ∧ (idx p : Int) = i) := Lib.hid ⟨by rw [HPD.out]; exact hk, by rw [HPD.out]; exact hi⟩
      have hos : o = s := by omega
      subst hos
      have q0 := b7.c 0 _ rfl
      have q1 := b7.c 1 _ rfl
      have r0 := b1.c 0 _ rfl
      have r1 := b1.c 1 _ rfl
      have g0 := b1.f 0 (by decide)
      have g1 := b1.f 1 (by decide)
      have HB := Lib.hid B
      clear hk hi ho b7 b1 B HO HP HS HPD
      go_wp2
      (try simp only [Exit.inBlock, Exit.then]); refine bodyPost_ret (v := .tuple #[.agg #[.int .i64 k, .int .i64 i], .bool true]) (by simp [results, Try.results33, go_sem, r0, r1]) rfl ?_
      rw [HKI.out.1, HKI.out.2]
      exact ⟨rfl, (HB.out.setCell (p := ⟨w.heap.size + 1, 0, none⟩) (Nat.le_succ _) _).setCell (p := ⟨w.heap.size + 1, 1, none⟩) (Nat.le_succ _) _⟩
    · obtain ⟨a, b, l, r', rfl⟩ : ∃ a b l r', u = .inner a b l r' := by
        rcases HO.out.spot with h | h
        · exact absurd h hq
        · exact h
      obtain ⟨c, q', hqc, hge, hpos, hon, hsum⟩ := HO.out.step
      have hle := sub_le HO.out.here
      have hin := flat_inner_len a b l r'
      have hlp := flat_pos l
      have hrp := flat_pos r'
      have hon1 := sub_high _ _ _ _ hon.here
      have hnn := ht_nonneg (if c then r' else l)
      rw [List.length_append, List.length_singleton] at hon1
      have hd60 : d.length + 1 ≤ 60 := by omega
      have hil := idx_lt d
      have hip : idx d < 1152921504606846976 := Nat.lt_of_lt_of_le hil (Nat.le_trans (Nat.pow_le_pow_right (by omega) (show d.length ≤ 60 by omega)) (by decide))
      have hil2 := idx_lt (d ++ [c])
      have hix := idx_snoc d c
      rw [List.length_append, List.length_singleton] at hil2
      have hlen2 : (d ++ [c]).length = d.length + 1 := by simp
      have HR := Lib.hid (okL_nat hd60 hil2)
      have HT := Lib.hid (halfI_inner HO.out.here true)
      have HC := Lib.hid (halfI_inner HO.out.here c)
      have hol : (o : Int) < ((flat t).length : Int) := by omega
      have HF : Hid (∀ w c, Spots w.heap.size w (flat t) [.slice A (flat t).length cap] → Calls Try.prog 38 #[.slice A (flat t).length cap, .int .i64 (o : Int), .bool c] w fun e W' => e = .returned (.int .i64 (halfI (flat t) (o : Int) c)) ∧ Below w.heap.size w W') := Lib.hid fun w c h => half_any _ (flat t) (o : Int) c w h hn hol (by omega)
      have HPN : Hid (p = (d ++ [c]) ++ q') := Lib.hid (by rw [HP.out, hqc]; simp)
      have HSN : Hid ((if c then o + 1 + (flat l).length else o + 1) + pos (if c then r' else l) q' = s) := Lib.hid (by rw [← hsum]; exact HS.out)
      have HON := Lib.hid hon
      have hso := HS.out
      rw [hso] at hge
      have hne : ((o : Int) == (s : Int)) = false := beq_eq_false_iff_ne.2 (by omega)
      obtain ⟨o', ho'⟩ : ∃ o', (if c then o + 1 + (flat l).length else o + 1) = o' := ⟨_, rfl⟩
      obtain ⟨u', hu'⟩ : ∃ u', (if c then r' else l) = u' := ⟨_, rfl⟩
      rw [ho'] at HC HSN HON
      rw [hu'] at HSN HON
      have hoo : o < o' := by rw [← ho']; split <;> omega
      have hol' : o' < (flat t).length := by rw [← ho']; split <;> omega
      have HDL := Lib.hid (down_any d.length (idx d) c)
      rw [← hix] at HDL
      obtain ⟨k', hk'⟩ : ∃ k' : Int, ((d.length + 1 : Nat) : Int) = k' := ⟨_, rfl⟩
      obtain ⟨i', hi'⟩ : ∃ i' : Int, (idx (d ++ [c]) : Int) = i' := ⟨_, rfl⟩
      rw [hk', hi'] at HDL HR
      have HKI : Hid (((d ++ [c]).length : Int) = k' ∧ (idx (d ++ [c]) : Int) = i') := Lib.hid ⟨by rw [hlen2]; exact hk', hi'⟩
      obtain ⟨mid, hmid⟩ : ∃ mid, o + 1 + (flat l).length = mid := ⟨_, rfl⟩
      have HT2 : Hid (halfI (flat t) (o : Int) true = (mid : Int)) := Lib.hid (by rw [HT.out, ← hmid]; rfl)
      rw [hmid] at hge
      have hge2 : decide (mid ≤ s) = c := hge
      have hdk : d.length ≤ 60 := by omega
      obtain ⟨k, hk⟩ : ∃ k : Int, (d.length : Int) = k := ⟨_, rfl⟩
      obtain ⟨i, hi⟩ : ∃ i : Int, (idx d : Int) = i := ⟨_, rfl⟩
      rw [hk, hi] at b7 HDL
      have q0 := b7.c 0 _ rfl
      have q1 := b7.c 1 _ rfl
      have HSP := Lib.hid (keeps_spots _ _ _ _ _ _ HX.out B B.size)
      clear hqc hpos hon hsum hle hin hlp hrp hon1 hnn hil hil2 hix hlen2 hd60 hso hge hmid hk' hi' hk hi ho' hu' hq HT
      go_wp2_with fail
      refine (HF.out wr true HSP.out).mono ?_
      rintro e w1 ⟨rfl, hb⟩
      rw [HT2.out]
      replace b7 := b7.next hb
      replace b1 := b1.next hb
      replace B := B.trans (hb.mono B.size)
      clear hb q0 q1
      have q0 := b7.c 0 _ rfl
      have q1 := b7.c 1 _ rfl
      go_wp2_with fail
      refine (HDL.out w1 hdk hip).mono ?_
      rintro e w2 ⟨rfl, hb⟩
      replace b7 := b7.next hb
      replace b1 := b1.next hb
      replace B := B.trans (hb.mono B.size)
      clear hb q0 q1
      have HSP2 := Lib.hid (keeps_spots _ _ _ _ _ _ HX.out B B.size)
      go_wp2_with fail
      refine (HF.out w2 c HSP2.out).mono ?_
      rintro e w3 ⟨rfl, hb⟩
      rw [HC.out]
      replace b7 := b7.next hb
      replace b1 := b1.next hb
      replace B := B.trans (hb.mono B.size)
      clear hb
      have s0 := b7.c 0 _ rfl
      have s1 := b7.c 1 _ rfl
      have g0 := b7.f 0 (by simp)
      have g1 := b7.f 1 (by simp)
      have HBX := Lib.hid (b7.two (.int .i64 k') (.int .i64 i'))
      have HBR := Lib.hid (b1.aside hne1 (.int .i64 k') (.int .i64 i'))
      have HBB := Lib.hid ((B.setCell (p := ⟨G, 0, none⟩) hwG (.int .i64 k')).setCell (p := ⟨G, 1, none⟩) hwG (.int .i64 i'))
      clear b7 b1 B
      go_wp2_with fail
      refine (lRight_any k' i' _).mono ?_
      rintro e w5 ⟨rfl, hb⟩
      rw [HR.out]
      have HBX2 := Lib.hid (HBX.out.next hb)
      have HBR2 := Lib.hid (HBR.out.next hb)
      have HBB2 := Lib.hid (HBB.out.trans (hb.mono HBB.out.size))
      clear hb
      go_wp2
      go_roundw
      case rel => exact ⟨d ++ [c], q', o', u', rfl, HON, HPN, HSN, by rw [HKI.out.1, HKI.out.2]; exact HBX2.out, HBR2.out, HBB2.out⟩
      case measure => simp [intOf]; omega

theorem lOf_any (v : Value) (ot : Option Tr) (m1 m2 : Int) (w : World) (h : Spots w.heap.size w (spo ot) [v]) (hk : okT (spo ot) = true) (hh : htO ot ≤ 60) :
    Calls Try.prog 33 #[v, vM m1 m2] w fun e W' => e = .returned (.tuple #[vM (ofO ot (m1, m2)).1.1 (ofO ot (m1, m2)).1.2, .bool (ofO ot (m1, m2)).2]) ∧ Below w.heap.size w W' := by
  have hn : (spo ot).length ≤ 1000000 := by have := (okT_parts hk).1; omega
  cases hof : offO ot (m1, m2) with
  | none => rw [ofO_none hof]; exact lOf_none v ot m1 m2 w h hn hof
  | some p =>
    rw [ofO_some hof]
    cases ot with
    | none => cases hof
    | some t => exact lOf_some v t m1 m2 p w h hn hh hof

set_option maxRecDepth 100000 in
set_option maxHeartbeats 16000000 in
theorem lWay_any (v : Value) (ot : Option Tr) (m1 m2 : Int) (w : World) (h : Spots w.heap.size w (spo ot) [v]) (hk : okT (spo ot) = true) (hh : htO ot ≤ 60) :
    Calls Try.prog 22 #[v, vM m1 m2] w fun e W' => ∃ v', e = .returned v' ∧ Mems W'.heap.size W' (wayO ot (m1, m2)) [v'] ∧ Below w.heap.size w W' := by
  have HX := Lib.hid h
  have KO : Hid (∀ w, Spots w.heap.size w (spo ot) [v] → Calls Try.prog 33 #[v, vM m1 m2] w fun e W' => e = .returned (.tuple #[vM (ofO ot (m1, m2)).1.1 (ofO ot (m1, m2)).1.2, .bool (ofO ot (m1, m2)).2]) ∧ Below w.heap.size w W') := Lib.hid fun w h => lOf_any v ot m1 m2 w h hk hh
  clear h
  go_enter Try.func22, Try.ntmps22
  go_wp2_with fail
  obtain ⟨W0, hW0, b0, B⟩ : ∃ W0, w.alloc (.cells #[.int .i64 m1, .int .i64 m2] 26) = W0 ∧ Box W0 w.heap.size [.int .i64 m1, .int .i64 m2] ∧ Below w.heap.size w W0 := ⟨_, rfl, Box.new w _ _, below_new _ _⟩
  rw [hW0]
  clear hW0
  refine (KO.out W0 (keeps_spots _ _ _ _ _ _ HX.out B B.size)).mono ?_
  rintro e W1 ⟨rfl, hb⟩
  replace B := B.trans (hb.mono B.size)
  clear hb b0
  cases hof : offO ot (m1, m2) with
  | none =>
    have HP := Lib.hid (ofO_none hof)
    have HU : Hid (wayO ot (m1, m2) = []) := Lib.hid (by simp [wayO, hof])
    rw [HP.out]
    clear hof
    go_wp2_with fail
    obtain ⟨W2, hW2, hb⟩ : ∃ W2, W1.alloc (.cells #[.int .i64 0, .int .i64 0] 24) = W2 ∧ Below W1.heap.size W1 W2 := ⟨_, rfl, below_new _ _⟩
    rw [hW2]
    clear hW2
    replace B := B.trans (hb.mono B.size)
    clear hb
    go_loop [5, 6, 7] (fun u x ok => ok = .bool false ∧ u = .slice none 0 0) (fun _ _ _ => 0)
    case atStart => exact ⟨rfl, rfl⟩
    case round =>
      obtain ⟨rfl, rfl⟩ := hrel
      go_wp2
      go_ret
      rw [HU.out]
      exact ⟨_, rfl, own_labs (xs := []) (World.ownsRow_nil _ w.heap.size _ _), B⟩
  | some p =>
    have HP := Lib.hid (ofO_some hof)
    have HU : Hid (wayO ot (m1, m2) = ups p.length (idx p)) := Lib.hid (by simp [wayO, hof])
    have hp60 : p.length ≤ 60 := by
      cases ot with
      | none => cases hof
      | some t =>
        have := off_high hof
        have hh2 : ht t ≤ 60 := hh
        omega
    have hil := idx_lt p
    rw [HP.out]
    have hlab : labOf p = lx p.length (idx p) 0 := by rw [lx_nought]; rfl
    rw [hlab]
    clear hof hlab
    obtain ⟨n, hnn⟩ : ∃ n, p.length = n := ⟨_, rfl⟩
    obtain ⟨i, hii⟩ : ∃ i, idx p = i := ⟨_, rfl⟩
    rw [hnn, hii] at HU hil
    rw [hnn] at hp60
    rw [hnn, hii]
    have HUP := Lib.hid (fun j (hj : j ≤ n) => lx_up (i := i) hp60 hil hj)
    clear hnn hii hil
    go_wp2_with fail
    obtain ⟨W2, hW2, b9, hb⟩ : ∃ W2, W1.alloc (.cells #[.int .i64 (lx n i 0).1, .int .i64 (lx n i 0).2] 24) = W2 ∧ Box W2 W1.heap.size [.int .i64 (lx n i 0).1, .int .i64 (lx n i 0).2] ∧ Below W1.heap.size W1 W2 := ⟨_, rfl, Box.new W1 _ _, below_new _ _⟩
    rw [hW2]
    clear hW2
    obtain ⟨G0, hG0⟩ : ∃ G, W1.heap.size = G := ⟨_, rfl⟩
    rw [hG0] at b9
    rw [hG0]
    have hGw : w.heap.size ≤ G0 := by rw [← hG0]; exact B.size
    replace B := B.trans (hb.mono B.size)
    clear hb hG0
    go_loopw [5, 6, 7] (fun u x ok wr => ∃ (j G : Nat) (wq : World) (uq : Value), wq = wr ∧ uq = u ∧ x = .pointer (some ⟨G, 0, none⟩) ∧ j ≤ n + 1 ∧ ok = .bool (decide (j ≤ n)) ∧ Box wr G [.int .i64 (lx n i j).1, .int .i64 (lx n i j).2] ∧ wr.ownsRow w.heap.size 24 2 u j (((ups n i).take j).flatMap mC) ∧ (∀ g, u.ownBlock = some g → g ≠ G) ∧ w.heap.size ≤ G ∧ Below w.heap.size w wr) (fun u _ _ _ => 70 - lenOf u)
    case atStart => exact ⟨0, G0, _, _, rfl, rfl, rfl, Nat.zero_le _, rfl, b9, World.ownsRow_nil _ _ _ _, (fun g hg => by cases hg), hGw, B⟩
    case round =>
      clear b9 B
      obtain ⟨j, G, wr, u, rfl, rfl, rfl, hj, rfl, bx, hown, hnG, hwG, B2⟩ := hrel
      by_cases hjn : j ≤ n
      · have hd : decide (j ≤ n) = true := decide_eq_true hjn
        have HK := Lib.hid (ups_take n i j hjn)
        have HLU := Lib.hid (lenOf_owns hown)
        have HUJ := Lib.hid (HUP.out j hjn)
        obtain ⟨⟨x, y⟩, hxy⟩ : ∃ q, lx n i j = q := ⟨_, rfl⟩
        rw [hxy] at bx HK HUJ
        have x0 := bx.c 0 _ rfl
        have x1 := bx.c 1 _ rfl
        clear hxy
        go_wp2_with (at_builtin; refine append_labs _ rfl _ _ rfl w.heap.size _ _ _ rfl (hown.alloc _) _ _ _ rfl (one_mem _ x y _ _ (by simp)) ?c1 ?c2 ?_)
        case c1 => (try simp); omega
        case c2 => (try simp); have := B2.size; omega
        intro v' w' hown' hgr
        have hGl := bx.lt
        have bx2 := (bx.next (below_new wr (.cells #[.int .i64 x, .int .i64 y] 24))).keep (hgr.block G (by simp; omega) (fun e => hnG G e.symm rfl))
        have B3 := (B2.alloc B2.size (.cells #[.int .i64 x, .int .i64 y] 24)).grown hgr (by have := B2.size; simp; omega) (fun k hk => by have := (hown.lt k hk).1; omega)
        have x0 := bx2.c 0 _ rfl
        have x1 := bx2.c 1 _ rfl
        clear bx hown hgr B2 hnG hwG hGl bx2
        go_wp2_with fail
        obtain ⟨w1, hw1, bn, hb⟩ : ∃ w1, w'.alloc (.cells #[.int .i64 x, .int .i64 y] 24) = w1 ∧ Box w1 w'.heap.size [.int .i64 x, .int .i64 y] ∧ Below w'.heap.size w' w1 := ⟨_, rfl, Box.new w' _ _, below_new _ _⟩
        rw [hw1]
        have hne := fun g hg => (owns_own hown' g hg).2
        obtain ⟨G', hG'⟩ : ∃ G', w'.heap.size = G' := ⟨_, rfl⟩
        have hGw' : w.heap.size ≤ G' := by rw [← hG']; exact B3.size
        have hown1 := owns_below hown' hb
        have B4 := B3.trans (hb.mono B3.size)
        rw [hG'] at bn hne
        rw [hG']
        have HL := Lib.hid (lenOf_owns hown')
        clear hw1 hb hown' B3 hG' x0 x1
        refine (lUp_any x y w1).mono ?_
        rintro e w2 ⟨rfl, hb⟩
        have bx3 := bn.next hb
        have hown3 := owns_below hown1 hb
        have B5 := B4.trans (hb.mono B4.size)
        rw [HUJ.out]
        obtain ⟨⟨x', y'⟩, hxy⟩ : ∃ q, lx n i (j + 1) = q := ⟨_, rfl⟩
        rw [hxy]
        have HXY := Lib.hid hxy
        have s0 := bx3.c 0 _ rfl
        have s1 := bx3.c 1 _ rfl
        have g0 := bx3.f 0 (by simp)
        have g1 := bx3.f 1 (by simp)
        have hne2 : ∀ g, v'.ownBlock = some g → g ≠ G' := fun g hg => Nat.ne_of_lt (hne g hg)
        have HBX := Lib.hid (bx3.two (.int .i64 x') (.int .i64 y'))
        have HOW := Lib.hid (owns_aside hown3 G' hne2 (.int .i64 x') (.int .i64 y'))
        have HB4 := Lib.hid ((B5.setCell (p := ⟨G', 0, none⟩) hGw' (.int .i64 x')).setCell (p := ⟨G', 1, none⟩) hGw' (.int .i64 y'))
        have HNE := Lib.hid hne2
        clear hxy bn bx3 hown1 hown3 hb B4 B5 hne hne2
        go_wp2
        go_roundw
        case rel => exact ⟨j + 1, G', _, _, rfl, rfl, rfl, by omega, rfl, by rw [HXY.out]; exact HBX.out, by rw [HK.out]; simpa using HOW.out, HNE.out, hGw', HB4.out⟩
        case measure => have h1 := HL.out; have h2 := HLU.out; omega
      · have hd : decide (j ≤ n) = false := decide_eq_false hjn
        have hjj : (ups n i).take j = ups n i := List.take_of_length_le (by rw [ups_length]; omega)
        have hlen : (ups n i).length = j := by rw [ups_length]; omega
        rw [hjj] at hown
        obtain ⟨g', c', n', rfl⟩ : ∃ ao n' cap, u = Value.slice ao n' cap := by
          rcases hown.2 with ⟨hv, _⟩ | ⟨g, cap, cur, hv, _⟩
          · exact ⟨_, _, _, hv⟩
          · exact ⟨_, _, _, hv⟩
        have HOW : Hid (Mems wr.heap.size wr (ups n i) [.slice g' c' n']) := Lib.hid (own_labs (base := w.heap.size) (by rw [hlen]; exact hown))
        clear hjj hlen hown
        go_wp2
        go_ret
        rw [HU.out]
        exact ⟨_, rfl, HOW.out, B2⟩

end Go.Proofs.Ytlmkgkfildgkgaa
