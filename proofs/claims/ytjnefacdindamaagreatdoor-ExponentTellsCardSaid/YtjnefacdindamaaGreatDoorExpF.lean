import Derived.Test.YtjnefacdindamaaGreatDoorExpN
import Derived.Test.YtjnefacdindamaaGreatDoorLayA
import Derived.Test.YtjnefacdindamaaGreatDoorTreeKA
import Derived.Test.YtjnefacdindamaaGreatDoorPhaseA
/- The document's words for a number, and for a tree. Conditions: numbers from 0 to below 2^31; the slice reads as the spots of a tree that may be, or nothing's. -/
namespace Go.Proofs.YtjnefacdindamaaGreatDoor
open Go Go.RowKit
set_option linter.unusedVariables false
set_option maxRecDepth 100000

theorem enc_ten : ∀ n : Fin 10, Utf8.encode (48 + ((n.val : Nat) : Int)) = ⟨#[UInt8.ofNat (48 + n.val)]⟩ := by decide +kernel
theorem enc_dig {n : Nat} (h : n < 10) : Utf8.encode (48 + (n : Int)) = tx [UInt8.ofNat (48 + n)] := by
  rw [enc_ten ⟨n, h⟩, tx_is]
set_option maxHeartbeats 4000000 in
theorem refNum_to : ∀ (k n : Nat) (w : World), n < 10 ^ k → n ≤ 2147483647 →
    Calls Tryz.prog 37 #[.int .i64 (n : Int)] w fun e W' => e = .returned (.string (tx (digN n))) ∧ Below w.heap.size w W'
  | 0, n, w, hk, hn => by
    have : n = 0 := by simpa using hk
    subst this
    have HE := Lib.hid (enc_dig (n := 0) (by decide))
    have HD := Lib.hid (digN_low (n := 0) (by decide))
    go_enter Tryz.func37, Tryz.ntmps37
    go_wp2
    go_ret
    exact ⟨by rw [HD.out, ← HE.out]; rfl, Below.refl _ _⟩
  | k + 1, n, w, hk, hn => by
    by_cases h : n < 10
    · have hd : decide ((n : Int) < 10) = true := decide_eq_true (by omega)
      have HE := Lib.hid (enc_dig h)
      have HD := Lib.hid (digN_low h)
      go_enter Tryz.func37, Tryz.ntmps37
      go_wp2
      go_ret
      exact ⟨by rw [HD.out, ← HE.out]; rfl, Below.refl _ _⟩
    · have hd : decide ((n : Int) < 10) = false := decide_eq_false (by omega)
      obtain ⟨q, hq⟩ : ∃ q, n / 10 = q := ⟨_, rfl⟩
      obtain ⟨r, hr⟩ : ∃ r, n % 10 = r := ⟨_, rfl⟩
      have hr10 : r < 10 := by omega
      have e1 : (n : Int) / 10 = (q : Int) := by omega
      have e2 : (n : Int) % 10 = (r : Int) := by omega
      have e3 : (n : Int).tdiv 10 = (q : Int) := by rw [Int.tdiv_eq_ediv_of_nonneg (by omega)]; exact e1
      have e4 : (n : Int).tmod 10 = (r : Int) := by rw [Int.tmod_eq_emod_of_nonneg (by omega)]; exact e2
      have HE := Lib.hid (enc_dig hr10)
      have HD := Lib.hid (digN_high (n := n) (by omega))
      rw [hq, hr] at HD
      have hlen : (digN q).length ≤ 10 := digN_len q (by omega)
      have HR := Lib.hid (refNum_to k q w (by rw [Nat.pow_succ] at hk; omega) (by omega))
      clear hk hq hr
      go_enter Tryz.func37, Tryz.ntmps37
      go_wp2_with fail
      refine HR.out.mono ?_
      rintro e W1 ⟨rfl, B⟩
      have hroom : ¬ (9223372036854775807 < (tx (digN q)).size + (Utf8.encode (48 + (r : Int))).size) := by
        rw [HE.out]
        exact tx_room (a := digN q) (b := [UInt8.ofNat (48 + r)]) (by simp; omega)
      have HA := Lib.hid (tx_app (digN q) [UInt8.ofNat (48 + r)])
      clear HR
      go_wp2
      go_ret
      exact ⟨by rw [HD.out, ← HA.out, ← HE.out]; rfl, B⟩
theorem refNum_any (n : Int) (w : World) (h0 : 0 ≤ n) (h1 : n ≤ 2147483647) :
    Calls Tryz.prog 37 #[.int .i64 n] w fun e W' => e = .returned (.string (tx (digN n.toNat))) ∧ Below w.heap.size w W' := by
  have h := refNum_to 10 n.toNat w (by omega) (by omega)
  rwa [show ((n.toNat : Nat) : Int) = n by omega] at h
/-- A tree's words are no more than so many bytes. -/
theorem form_len : ∀ (t : Tr), (∀ m ∈ lv (flat t), okM m.1 m.2 = true) → (formT t).length ≤ 21 * (flat t).length
  | .leaf a b, h => by
    have := h (a, b) (by simp [flat, lv])
    simp only [okM, okC, Bool.and_eq_true, decide_eq_true_eq] at this
    have h1 := digN_len a.toNat (by omega)
    have h2 := digN_len b.toNat (by omega)
    simp only [formT, flat, List.length_append, List.length_cons, List.length_nil]
    omega
  | .inner a b l r, h => by
    have e : lv (flat (.inner a b l r)) = lv (flat l) ++ lv (flat r) := by rw [← lv_append]; rfl
    rw [e] at h
    have h1 := form_len l fun m hm => h m (List.mem_append_left _ hm)
    have h2 := form_len r fun m hm => h m (List.mem_append_right _ hm)
    simp only [formT, flat, List.length_append, List.length_cons, List.length_nil]
    omega
set_option maxRecDepth 100000 in
set_option maxHeartbeats 8000000 in
theorem refFormal_tree : ∀ (t : Tr) (v : Value) (w : World), Spots w.heap.size w (flat t) [v] → (flat t).length ≤ 1000000 → (∀ m ∈ lv (flat t), okM m.1 m.2 = true) →
    Calls Tryz.prog 17 #[v] w fun e W' => e = .returned (.string (tx (formT t))) ∧ Below w.heap.size w W'
  | .leaf a b, v, w, hx, hn, hm => by
    have HX := Lib.hid hx
    have hab := hm (a, b) (by simp [flat, lv])
    simp only [okM, okC, Bool.and_eq_true, decide_eq_true_eq] at hab
    obtain ⟨A, cap, rfl, hlc, hcm, hp⟩ := spots_at hx
    obtain ⟨g, off, rfl, hgn, -, hc1, hc2⟩ := hp 0 (by simp [flat])
    simp only [Nat.zero_mul, Nat.add_zero] at hc1 hc2
    replace hc1 : w.cell? ⟨g, off + 1, none⟩ = some (.int .i64 a) := hc1
    replace hc2 : w.cell? ⟨g, off + 2, none⟩ = some (.int .i64 b) := hc2
    have hcm2 : cap ≤ 9223372036854775807 := Nat.le_trans hcm (by decide)
    have HH := Lib.hid (refHalves_few (flat (.leaf a b)) _ w HX.out (by simp [flat]))
    have e1 : (flat (.leaf a b)).length = 1 := rfl
    rw [e1] at HH
    rw [e1]
    have ha : (digN a.toNat).length ≤ 10 := digN_len _ (by omega)
    have hb : (digN b.toNat).length ≤ 10 := digN_len _ (by omega)
    clear hx hp hcm hm e1
    go_enter Tryz.func17, Tryz.ntmps17
    go_wp2_with fail
    refine HH.out.mono ?_
    rintro e W1 ⟨rfl, rfl⟩
    have s1 : (tx (digN a.toNat)).size ≤ 10 := by rw [tx_size]; exact ha
    have s2 : (tx (digN b.toNat)).size ≤ 10 := by rw [tx_size]; exact hb
    have HT : Hid (tx (digN a.toNat) ++ ByteArray.mk #[46] ++ tx (digN b.toNat) = tx (formT (.leaf a b))) := Lib.hid (by
      rw [show (ByteArray.mk #[46]) = tx [46] by rw [tx_is], tx_app, tx_app]; rfl)
    have hr1 : (tx (digN a.toNat)).size ≤ 9223372036854775806 := by omega
    have hr2 : (tx (digN a.toNat)).size + 1 + (tx (digN b.toNat)).size ≤ 9223372036854775807 := by omega
    go_wp2_with fail
    refine wp_region_results (fun r i => ([.slice (some ⟨g, off, none⟩) 1 cap, .pointer (some ⟨g, off, none⟩), .pointer (some ⟨g, off + 1, none⟩), .pointer (some ⟨g, off + 1, none⟩), .int .i64 a, .string (tx (digN a.toNat)), .string (tx (digN a.toNat) ++ ByteArray.mk #[46]), .slice (some ⟨g, off, none⟩) 1 cap, .pointer (some ⟨g, off, none⟩), .pointer (some ⟨g, off + 1, none⟩), .pointer (some ⟨g, off + 1 + 1, none⟩), .int .i64 b, .string (tx (digN b.toNat)), .string (tx (digN a.toNat) ++ ByteArray.mk #[46] ++ tx (digN b.toNat)), .string (tx (digN a.toNat) ++ ByteArray.mk #[46] ++ tx (digN b.toNat))] : List Value).getD i undef) [5, 12] [0, 0, 0, 0, 0, 0, 1, 0, 0, 0, 0, 0, 1, 2, 2] (fun r q w' => (Below w.heap.size w w')) (by kernel_rfl) (by kernel_rfl) (fun r => ⟨rfl, rfl, rfl, Nat.le_refl _, fun _ _ => rfl⟩) ?_ ?_
    · refine ObsR_of_ends (by kernel_rfl) ?_
      intro r Fr hEA
      refine ⟨?_, ?_, ?_, ?_, ?_, ?_, ?_, ?_, ?_, ?_, ?_, ?_, ?_, ?_, ?_, trivial⟩
      · exact obR_move _ rfl (want_none rfl) (by kernel_rfl) (eval_out hEA (d := 0) (by kernel_rfl))
      · refine obR_val (want_none rfl) (by kernel_rfl) (fun ph w' hp hpm hw => ?_)
        have e17 : Fr.tmps[17]? = some (.slice (some ⟨g, off, none⟩) 1 cap) := hEA.dst 0 _ 17 rfl rfl; simp [execOp, e17, go_sem]
      · refine obR_val (want_none rfl) (by kernel_rfl) (fun ph w' hp hpm hw => ?_)
        have e18 : Fr.tmps[18]? = some (.pointer (some ⟨g, off, none⟩)) := hEA.dst 1 _ 18 rfl rfl; simp [execOp, e18, go_sem]
      · refine obR_val (want_none rfl) (by kernel_rfl) (fun ph w' hp hpm hw => ?_)
        have e19 : Fr.tmps[19]? = some (.pointer (some ⟨g, off + 1, none⟩)) := hEA.dst 2 _ 19 rfl rfl; simp [execOp, e19, go_sem]
      · refine obR_val (want_none rfl) (by kernel_rfl) (fun ph w' hp hpm hw => ?_)
        have hc0 := (hw.cell (p := ⟨g, off + 1, none⟩) hgn).trans hc1
        have e20 : Fr.tmps[20]? = some (.pointer (some ⟨g, off + 1, none⟩)) := hEA.dst 3 _ 20 rfl rfl; simp [execOp, e20, hc0, go_sem]
      · refine obR_call (q := 0) (f := 37) (args := #[.int .i64 a]) (want_none rfl) (by kernel_rfl) (fun w' => by have e21 : Fr.tmps[21]? = some (.int .i64 a) := hEA.dst 4 _ 21 rfl rfl; simp [e21, go_sem]) ?_
        intro w' hw
        refine (refNum_any a w' (by omega) (by omega)).mono ?_
        rintro e w2 ⟨rfl, hb⟩
        exact ⟨_, rfl, fun r' hr hv => ⟨rfl, hw.trans (hb.mono hw.size)⟩⟩
      · refine obR_val (want_none rfl) (by kernel_rfl) (fun ph w' hp hpm hw => ?_)
        have e22 : Fr.tmps[22]? = some (.string (tx (digN a.toNat))) := hEA.dst 5 _ 22 rfl rfl; simp [execOp, e22, hr1, go_sem]
      · exact obR_move _ rfl (want_none rfl) (by kernel_rfl) (eval_out hEA (d := 0) (by kernel_rfl))
      · refine obR_val (want_none rfl) (by kernel_rfl) (fun ph w' hp hpm hw => ?_)
        have e24 : Fr.tmps[24]? = some (.slice (some ⟨g, off, none⟩) 1 cap) := hEA.dst 7 _ 24 rfl rfl; simp [execOp, e24, go_sem]
      · refine obR_val (want_none rfl) (by kernel_rfl) (fun ph w' hp hpm hw => ?_)
        have e25 : Fr.tmps[25]? = some (.pointer (some ⟨g, off, none⟩)) := hEA.dst 8 _ 25 rfl rfl; simp [execOp, e25, go_sem]
      · refine obR_val (want_none rfl) (by kernel_rfl) (fun ph w' hp hpm hw => ?_)
        have e26 : Fr.tmps[26]? = some (.pointer (some ⟨g, off + 1, none⟩)) := hEA.dst 9 _ 26 rfl rfl; simp [execOp, e26, go_sem]
      · refine obR_val (want_none rfl) (by kernel_rfl) (fun ph w' hp hpm hw => ?_)
        have hc0 := (hw.cell (p := ⟨g, off + 1 + 1, none⟩) hgn).trans hc2
        have e27 : Fr.tmps[27]? = some (.pointer (some ⟨g, off + 1 + 1, none⟩)) := hEA.dst 10 _ 27 rfl rfl; simp [execOp, e27, hc0, go_sem]
      · refine obR_call (q := 1) (f := 37) (args := #[.int .i64 b]) (want_none rfl) (by kernel_rfl) (fun w' => by have e28 : Fr.tmps[28]? = some (.int .i64 b) := hEA.dst 11 _ 28 rfl rfl; simp [e28, go_sem]) ?_
        intro w' hw
        refine (refNum_any b w' (by omega) (by omega)).mono ?_
        rintro e w2 ⟨rfl, hb⟩
        exact ⟨_, rfl, fun r' hr hv => ⟨rfl, hw.trans (hb.mono hw.size)⟩⟩
      · refine obR_val (want_none rfl) (by kernel_rfl) (fun ph w' hp hpm hw => ?_)
        have e23 : Fr.tmps[23]? = some (.string (tx (digN a.toNat) ++ ByteArray.mk #[46])) := hEA.dst 6 _ 23 rfl rfl; have e29 : Fr.tmps[29]? = some (.string (tx (digN b.toNat))) := hEA.dst 12 _ 29 rfl rfl; simp [execOp, e23, e29, hr2, go_sem]
      · refine obR_val (want_none rfl) (by kernel_rfl) (fun ph w' hp hpm hw => ?_)
        have e30 : Fr.tmps[30]? = some (.string (tx (digN a.toNat) ++ ByteArray.mk #[46] ++ tx (digN b.toNat))) := hEA.dst 13 _ 30 rfl rfl; simp [execOp, e30, go_sem]
    · intro r w' hw
      simp only [laid, Act.put, List.setIfInBounds_toArray, List.set_cons_succ, List.set_cons_zero, List.getD_cons_succ, List.getD_cons_zero, Nat.zero_add, Nat.reduceAdd]
      obtain ⟨wz, hwz⟩ : ∃ wz, w' = wz := ⟨_, rfl⟩
      rw [hwz] at hw
      rw [hwz]
      clear hwz
      go_wp2
      go_ret
      exact ⟨by rw [← HT.out]; rfl, hw⟩
  | .inner a b l r, v, w, hx, hn, hm => by
    have e : lv (flat (.inner a b l r)) = lv (flat l) ++ lv (flat r) := by rw [← lv_append]; rfl
    rw [e] at hm
    have hil := flat_inner_len a b l r
    have HL := Lib.hid (fun v w h => refFormal_tree l v w h (by omega) fun m h => hm m (List.mem_append_left _ h))
    have HR := Lib.hid (fun v w h => refFormal_tree r v w h (by omega) fun m h => hm m (List.mem_append_right _ h))
    have HH := Lib.hid (refHalves_inner a b l r v w hx hn)
    have hll := form_len l fun m h => hm m (List.mem_append_left _ h)
    have hlr := form_len r fun m h => hm m (List.mem_append_right _ h)
    obtain ⟨fl, hfl⟩ : ∃ fl, formT l = fl := ⟨_, rfl⟩
    obtain ⟨fr, hfr⟩ : ∃ fr, formT r = fr := ⟨_, rfl⟩
    have HF : Hid (formT (.inner a b l r) = [40] ++ fl ++ [32] ++ fr ++ [41]) := Lib.hid (by rw [← hfl, ← hfr]; rfl)
    rw [hfl] at hll HL
    rw [hfr] at hlr HR
    have hl2 : fl.length ≤ 21000000 := by omega
    have hr2 : fr.length ≤ 21000000 := by omega
    clear hx hm e hil hll hlr hfl hfr
    go_enter Tryz.func17, Tryz.ntmps17
    go_wp2_with fail
    refine HH.out.mono ?_
    rintro e W1 ⟨v1, v2, rfl, hv1, hv2, B⟩
    have HV1 := Lib.hid hv1
    have HV2 := Lib.hid hv2
    clear hv1 hv2 HH
    go_wp2_with fail
    refine (HL.out v1 W1 HV1.out).mono ?_
    rintro e W2 ⟨rfl, hb⟩
    replace HV2 := Lib.hid (keeps_spots _ _ _ _ _ _ HV2.out hb hb.size)
    replace B := B.trans (hb.mono B.size)
    clear hb
    have s1 : (tx fl).size ≤ 21000000 := by rw [tx_size]; exact hl2
    have s2 : (tx fr).size ≤ 21000000 := by rw [tx_size]; exact hr2
    have r1 : ¬ (9223372036854775807 < 1 + (tx fl).size) := by omega
    have r2 : ¬ (9223372036854775807 < 1 + (tx fl).size + 1) := by omega
    have r3 : ¬ (9223372036854775807 < 1 + (tx fl).size + 1 + (tx fr).size) := by omega
    have r4 : ¬ (9223372036854775807 < 1 + (tx fl).size + 1 + (tx fr).size + 1) := by omega
    go_wp2_with fail
    refine (HR.out v2 W2 HV2.out).mono ?_
    rintro e W3 ⟨rfl, hb⟩
    replace B := B.trans (hb.mono B.size)
    clear hb HV1 HV2 HL HR
    have HT : Hid (ByteArray.mk #[40] ++ tx fl ++ ByteArray.mk #[32] ++ tx fr ++ ByteArray.mk #[41] = tx (formT (.inner a b l r))) := Lib.hid (by
      rw [HF.out, show (ByteArray.mk #[40]) = tx [40] by rw [tx_is], show (ByteArray.mk #[32]) = tx [32] by rw [tx_is], show (ByteArray.mk #[41]) = tx [41] by rw [tx_is], tx_app, tx_app, tx_app, tx_app])
    go_wp2
    go_ret
    exact ⟨by rw [← HT.out]; rfl, B⟩
theorem refFormal_any (x : Option Tr) (v : Value) (w : World) (hx : Spots w.heap.size w (spo x) [v]) (hk : okT (spo x) = true) :
    Calls Tryz.prog 17 #[v] w fun e W' => e = .returned (.string (tx (formO x))) ∧ Below w.heap.size w W' := by
  cases x with
  | none =>
    have HH := Lib.hid (refHalves_few [] v w hx (by decide))
    obtain ⟨A, cap, rfl, -, -⟩ : ∃ A cap, v = .slice A 0 cap ∧ (0 : Nat) ≤ cap ∧ cap ≤ maxLen := by
      obtain ⟨A, cap, e, h1, h2, _⟩ := spots_at hx
      exact ⟨A, cap, e, h1, h2⟩
    have HT : Hid (ByteArray.mk #[] = tx (formO none)) := Lib.hid (by rw [tx_is]; rfl)
    clear hx
    go_enter Tryz.func17, Tryz.ntmps17
    go_wp2_with fail
    refine HH.out.mono ?_
    rintro e W1 ⟨rfl, rfl⟩
    go_wp2
    go_ret
    exact ⟨by rw [← HT.out]; rfl, Below.refl _ _⟩
  | some t =>
    obtain ⟨h1, -, h3⟩ := okT_parts hk
    exact refFormal_tree t v w hx (Nat.le_trans h1 (by decide)) fun m hm => once_ok h3 hm
end Go.Proofs.YtjnefacdindamaaGreatDoor
