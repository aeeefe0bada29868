import Derived.Test.YtjnefacdindamaaGreatDoorExpD
import Derived.Test.YtjnefacdindamaaGreatDoorSecA
import Derived.Test.YtjnefacdindamaaGreatDoorLabA
import Derived.Test.YtjnefacdindamaaGreatDoorTreeKA
import Derived.Test.YtjnefacdindamaaGreatDoorLens
/- The document's Key and Blinded. Conditions: the slices read as a tree's spots, or nothing's, and as secrets of at most 4 bytes each. -/
namespace Go.Proofs.YtjnefacdindamaaGreatDoor
open Go Go.RowKit Num
set_option linter.unusedVariables false
set_option maxRecDepth 100000

theorem txt_tx (n : Nat) : txt n = tx (byts n) := by rw [txt_is, tx_is]
theorem refBlindL (g : Int) (l : List UInt8) (w : World) (hl : l.length ≤ 4000) : Calls Tryz.prog 21 #[.int .i64 g, .string (tx l)] w fun e W' => e = .returned (.string (tx (bliL g l))) ∧ Below w.heap.size w W' := by
  have h := refSblind_any g (tx l) w (by rw [tx_size]; exact hl)
  rw [tx_data, txt_tx] at h
  exact h
theorem refAgreeL (g : Int) (b l : List UInt8) (w : World) (hb : b.length ≤ 4000) (hl : l.length ≤ 4000) : Calls Tryz.prog 20 #[.int .i64 g, .string (tx b), .string (tx l)] w fun e W' => e = .returned (.string (tx (agrL g b l))) ∧ Below w.heap.size w W' := by
  have h := refSagree_any g (tx b) (tx l) w (by rw [tx_size]; exact hb) (by rw [tx_size]; exact hl)
  rw [tx_data, tx_data, txt_tx] at h
  exact h
theorem refRightSL (g : Int) (l : List UInt8) (w : World) (hl : l.length ≤ 4000) : Calls Tryz.prog 19 #[.int .i64 g, .string (tx l)] w fun e W' => e = .returned (.bool (isS g l)) ∧ Below w.heap.size w W' := by
  have h := refSright_any g (tx l) w (by rw [tx_size]; exact hl)
  rw [tx_data] at h
  exact h
/-- Is a text nothing? As the walk asks it. -/
theorem tx_none (l : List UInt8) : (tx l).toList.isEmpty = decide (l = []) := by
  rw [tx_list]
  cases l <;> rfl
set_option maxRecDepth 100000 in
set_option maxHeartbeats 8000000 in
theorem refKey_tree (g : Int) (ds : List Dr) (hds : ∀ d ∈ ds, d.2.1.length ≤ 4) : ∀ (t : Tr) (v u : Value) (w : World), Spots w.heap.size w (flat t) [v] → Draws w.heap.size w ds [u] → (flat t).length ≤ 1000000 →
    Calls Tryz.prog 11 #[.int .i64 g, v, u] w fun e W' => e = .returned (.string (tx (keyT g ds t))) ∧ Below w.heap.size w W'
  | .leaf a b, v, u, w, hx, hu, hn => by
    have HX := Lib.hid hx
    have HS := Lib.hid (refSecret_any u ds a b w hu)
    obtain ⟨A, cap, rfl, hlc, hcm, hp⟩ := spots_at hx
    obtain ⟨g0, off, rfl, hgn, -, hc1, hc2⟩ := hp 0 (by simp [flat])
    simp only [Nat.zero_mul, Nat.add_zero] at hc1 hc2
    replace hc1 : w.cell? ⟨g0, off + 1, none⟩ = some (.int .i64 a) := hc1
    replace hc2 : w.cell? ⟨g0, off + 2, none⟩ = some (.int .i64 b) := hc2
    have hcm2 : cap ≤ 9223372036854775807 := Nat.le_trans hcm (by decide)
    have HH := Lib.hid (refHalves_few (flat (.leaf a b)) _ w HX.out (by simp [flat]))
    have e1 : (flat (.leaf a b)).length = 1 := rfl
    rw [e1] at HH
    rw [e1]
    obtain ⟨Au, nu, cu, rfl⟩ : ∃ Au nu cu, u = .slice Au nu cu := by obtain ⟨Au, cu, h, -⟩ := draws_len hu _ rfl; exact ⟨_, _, _, h⟩
    clear hx hp hcm e1 hu
    go_enter Tryz.func11, Tryz.ntmps11
    go_wp2_with fail
    refine HH.out.mono ?_
    rintro e W1 ⟨rfl, rfl⟩
    clear HH
    go_wp2_with fail
    refine HS.out.mono ?_
    rintro e W1 ⟨rfl, B⟩
    go_wp2
    go_ret
    exact ⟨rfl, B⟩
  | .inner a b l r, v, u, w, hx, hu, hn => by
    have hil := flat_inner_len a b l r
    have HL := Lib.hid (fun v u w h h' => refKey_tree g ds hds l v u w h h' (by omega))
    have HR := Lib.hid (fun v u w h h' => refKey_tree g ds hds r v u w h h' (by omega))
    have HH := Lib.hid (refHalves_inner a b l r v w hx hn)
    have HU := Lib.hid hu
    have hkl := keyT_len g hds l
    have hkr := keyT_len g hds r
    obtain ⟨x, hx1⟩ : ∃ x, keyT g ds l = x := ⟨_, rfl⟩
    obtain ⟨y, hy1⟩ : ∃ y, keyT g ds r = y := ⟨_, rfl⟩
    have HK : Hid (keyT g ds (.inner a b l r) = joinK g x y) := Lib.hid (by rw [← hx1, ← hy1]; rfl)
    rw [hx1] at hkl HL
    rw [hy1] at hkr HR
    have hex := tx_none x
    have hey := tx_none y
    clear hx hu hil hx1 hy1
    go_enter Tryz.func11, Tryz.ntmps11
    go_wp2_with fail
    refine HH.out.mono ?_
    rintro e W1 ⟨v1, v2, rfl, hv1, hv2, B⟩
    have HV1 := Lib.hid hv1
    have HV2 := Lib.hid hv2
    replace HU := Lib.hid (keeps_draws _ _ _ _ _ _ HU.out B B.size)
    clear hv1 hv2 HH
    go_wp2_with fail
    refine (HL.out v1 u W1 HV1.out HU.out).mono ?_
    rintro e W2 ⟨rfl, hb⟩
    replace HV2 := Lib.hid (keeps_spots _ _ _ _ _ _ HV2.out hb hb.size)
    replace HU := Lib.hid (keeps_draws _ _ _ _ _ _ HU.out hb hb.size)
    replace B := B.trans (hb.mono B.size)
    clear hb
    go_wp2_with fail
    refine (HR.out v2 u W2 HV2.out HU.out).mono ?_
    rintro e W3 ⟨rfl, hb⟩
    replace B := B.trans (hb.mono B.size)
    clear hb HL HR HV1 HV2 HU
    have HN : Hid (ByteArray.mk #[] = tx []) := Lib.hid (by rw [tx_is])
    by_cases h1 : x = []
    · have HJ : Hid (joinK g x y = []) := Lib.hid (by unfold joinK; rw [if_pos (Or.inl h1)])
      rw [decide_eq_true h1] at hex
      clear h1
      go_wp2
      go_ret
      exact ⟨by rw [HK.out, HJ.out, ← HN.out]; rfl, B⟩
    · rw [decide_eq_false h1] at hex
      by_cases h2 : y = []
      · have HJ : Hid (joinK g x y = []) := Lib.hid (by unfold joinK; rw [if_pos (Or.inr h2)])
        rw [decide_eq_true h2] at hey
        clear h1 h2
        go_wp2
        go_ret
        exact ⟨by rw [HK.out, HJ.out, ← HN.out]; rfl, B⟩
      · have HJ : Hid (joinK g x y = agrL g (bliL g y) x) := Lib.hid (by unfold joinK; rw [if_neg (by rintro (h | h); exact h1 h; exact h2 h)])
        rw [decide_eq_false h2] at hey
        clear h1 h2
        go_wp2_with fail
        refine (refBlindL g y W3 (by omega)).mono ?_
        rintro e W4 ⟨rfl, hb⟩
        replace B := B.trans (hb.mono B.size)
        clear hb
        go_wp2_with fail
        refine (refAgreeL g (bliL g y) x W4 (by have := bli_len g y; omega) (by omega)).mono ?_
        rintro e W5 ⟨rfl, hb⟩
        replace B := B.trans (hb.mono B.size)
        clear hb
        go_wp2
        go_ret
        exact ⟨by rw [HK.out, HJ.out]; rfl, B⟩
theorem refKey_any (g : Int) (ds : List Dr) (hds : ∀ d ∈ ds, d.2.1.length ≤ 4) (x : Option Tr) (v u : Value) (w : World) (hx : Spots w.heap.size w (spo x) [v]) (hu : Draws w.heap.size w ds [u]) (hn : (spo x).length ≤ 1000000) :
    Calls Tryz.prog 11 #[.int .i64 g, v, u] w fun e W' => e = .returned (.string (tx (keyO g ds x))) ∧ Below w.heap.size w W' := by
  cases x with
  | none =>
    have HH := Lib.hid (refHalves_few [] v w hx (by decide))
    obtain ⟨A, cap, rfl, -, -⟩ := spots_len hx 0 rfl
    have HT : Hid (ByteArray.mk #[] = tx (keyO g ds none)) := Lib.hid (by rw [tx_is]; rfl)
    clear hx hu
    go_enter Tryz.func11, Tryz.ntmps11
    go_wp2_with fail
    refine HH.out.mono ?_
    rintro e W1 ⟨rfl, rfl⟩
    go_wp2
    go_ret
    exact ⟨by rw [← HT.out]; rfl, Below.refl _ _⟩
  | some t => exact refKey_tree g ds hds t v u w hx hu hn
/-- What is at a label, as a tree. -/
def placeT (x : Option Tr) (L I : Int) : Option Tr := if okL L I then (subO x (path L.toNat I.toNat)).map (·.2) else none
theorem partO_place (x : Option Tr) (L I : Int) : partO x L I = spo (placeT x L I) := by
  unfold partO placeT
  by_cases h : okL L I = true
  · rw [if_pos h, if_pos h]
    cases subO x (path L.toNat I.toNat) <;> rfl
  · rw [if_neg h, if_neg h]; rfl
theorem placeT_ok {x : Option Tr} (h : okT (spo x) = true) (L I : Int) : okT (spo (placeT x L I)) = true := by
  unfold placeT
  split
  · cases x with
    | none => rfl
    | some t =>
      cases hs : sub t (path L.toNat I.toNat) with
      | none => simp only [subO, hs]; rfl
      | some q =>
        obtain ⟨o, u⟩ := q
        simp only [subO, hs, Option.map_some]
        exact okT_sub h hs
  · rfl
theorem partO_len (x : Option Tr) (L I : Int) : (partO x L I).length ≤ (spo x).length := by
  rcases at_part x L I with ⟨-, hp⟩ | ⟨o, u, -, hp, hle, -, -⟩
  · rw [hp]; exact Nat.zero_le _
  · rw [hp]; omega
/-- A place's blinded key. -/
def bliO (g : Int) (ds : List Dr) (x : Option Tr) (L I : Int) : List UInt8 := if keyO g ds (placeT x L I) = [] then [] else bliL g (keyO g ds (placeT x L I))
theorem bliO_len (g : Int) (ds : List Dr) (x : Option Tr) (L I : Int) : (bliO g ds x L I).length ≤ 192 := by
  unfold bliO
  split
  · exact Nat.zero_le _
  · exact bli_len _ _
set_option maxRecDepth 100000 in
set_option maxHeartbeats 4000000 in
theorem refBlinded_any (g : Int) (ds : List Dr) (hds : ∀ d ∈ ds, d.2.1.length ≤ 4) (x : Option Tr) (L I : Int) (v u : Value) (w : World) (hx : Spots w.heap.size w (spo x) [v]) (hu : Draws w.heap.size w ds [u]) (hn : (spo x).length ≤ 1000000) :
    Calls Tryz.prog 13 #[.int .i64 g, v, u, vM L I] w fun e W' => e = .returned (.string (tx (bliO g ds x L I))) ∧ Below w.heap.size w W' := by
  have HX := Lib.hid hx
  have HU := Lib.hid hu
  have hpl := partO_len x L I
  clear hx hu
  go_enter Tryz.func13, Tryz.ntmps13
  go_wp2_with fail
  obtain ⟨W0, hW0, B⟩ : ∃ W0, w.alloc (.cells #[.int .i64 L, .int .i64 I] 25) = W0 ∧ Below w.heap.size w W0 := ⟨_, rfl, below_new _ _⟩
  rw [hW0]
  clear hW0
  replace HX := Lib.hid (keeps_spots _ _ _ _ _ _ HX.out B B.size)
  replace HU := Lib.hid (keeps_draws _ _ _ _ _ _ HU.out B B.size)
  refine (refPart_any v x L I W0 HX.out hn).mono ?_
  rintro e W1 ⟨vp, rfl, hvp, hb⟩
  rw [partO_place] at hvp hpl
  have HV := Lib.hid hvp
  replace HU := Lib.hid (keeps_draws _ _ _ _ _ _ HU.out hb hb.size)
  replace B := B.trans (hb.mono B.size)
  clear hb hvp HX
  have hkl := keyO_len g hds (placeT x L I)
  have HK := Lib.hid (refKey_any g ds hds (placeT x L I) vp u W1 HV.out HU.out (by omega))
  obtain ⟨k, hk⟩ : ∃ k, keyO g ds (placeT x L I) = k := ⟨_, rfl⟩
  have HBO : Hid (bliO g ds x L I = if k = [] then [] else bliL g k) := Lib.hid (by unfold bliO; rw [hk])
  rw [hk] at HK hkl
  have hek := tx_none k
  clear hk HV HU
  go_wp2_with fail
  refine HK.out.mono ?_
  rintro e W2 ⟨rfl, hb⟩
  replace B := B.trans (hb.mono B.size)
  clear hb HK
  by_cases h1 : k = []
  · have HN : Hid (ByteArray.mk #[] = tx (bliO g ds x L I)) := Lib.hid (by rw [HBO.out, if_pos h1, tx_is])
    rw [decide_eq_true h1] at hek
    clear h1
    go_wp2
    go_ret
    exact ⟨by rw [← HN.out]; rfl, B⟩
  · have HN : Hid (bliO g ds x L I = bliL g k) := Lib.hid (by rw [HBO.out, if_neg h1])
    rw [decide_eq_false h1] at hek
    clear h1
    go_wp2_with fail
    refine (refBlindL g k W2 (by omega)).mono ?_
    rintro e W3 ⟨rfl, hb⟩
    replace B := B.trans (hb.mono B.size)
    clear hb
    go_wp2
    go_ret
    exact ⟨by rw [HN.out]; rfl, B⟩

end Go.Proofs.YtjnefacdindamaaGreatDoor
