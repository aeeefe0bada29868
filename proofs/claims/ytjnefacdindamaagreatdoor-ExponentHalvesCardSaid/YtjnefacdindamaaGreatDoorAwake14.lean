import Derived.Test.YtjnefacdindamaaGreatDoorExpB
import Derived.Test.YtjnefacdindamaaGreatDoorExpL
import Derived.Test.YtjnefacdindamaaGreatDoorAwakeS
import Derived.Test.YtjnefacdindamaaGreatDoorRefJ
import Derived.Test.YtjnefacdindamaaGreatDoorLens
/- The document's examples of layer 14 hold (lodgelaw14.awake answers true), and memory below is left as it was. No condition. -/
namespace Go.Proofs.YtjnefacdindamaaGreatDoor
open Go Go.RowKit Num
set_option linter.unusedVariables false
set_option maxRecDepth 100000

def exT : Option Tr := some (.inner 0 0 (.leaf 0 1) (.leaf 1 1))
def exD : List Dr := [((0, 1), [3], 0), ((1, 1), [5], 0)]
theorem exT_ok : okT (spo exT) = true := by decide +kernel
theorem exT_ht : htO exT ≤ 60 := by decide +kernel
theorem ex1_ok : okT (spo (some (.leaf 0 1))) = true := by decide +kernel
theorem ex1_ht : htO (some (.leaf 0 1)) ≤ 60 := by decide +kernel
theorem exD_sh (x : Option Tr) : ∀ m ∈ lvO x, (secL exD m).length ≤ 4 := fun m _ => by
  rcases secL_or exD m with h | ⟨d, hd, -, h⟩
  · rw [h]; exact Nat.zero_le _
  · rw [h]
    simp only [exD, List.mem_cons, List.not_mem_nil, or_false] at hd
    rcases hd with rfl | rfl <;> decide
theorem exE_sh (x : Option Tr) : ∀ m ∈ lvO x, (secL (exD.take 1) m).length ≤ 4 := fun m _ => by
  rcases secL_or (exD.take 1) m with h | ⟨d, hd, -, h⟩
  · rw [h]; exact Nat.zero_le _
  · rw [h]
    have hd : d ∈ [(((0, 1), [3], 0) : Dr)] := hd
    simp only [List.mem_cons, List.not_mem_nil, or_false] at hd
    subst hd
    decide
theorem ex_b5 : bliL 0 [5] = [9] := by
  unfold bliL
  rw [powN_yes _ _ P0_ne, P_0, pm_is]
  decide +kernel
theorem ex_a9 : agrL 0 [9] [3] = [9] := by
  unfold agrL
  rw [powN_yes _ _ P0_ne, redN_yes _ P0_ne, P_0, pm_is]
  decide +kernel
theorem ex_k : tx (keyO 0 exD exT) = ⟨#[9]⟩ := by
  have e : keyO 0 exD exT = joinK 0 [3] [5] := rfl
  rw [e, joinK, if_neg (by simp), ex_b5, ex_a9, tx_is]
theorem ex_l : tx (keyO 0 exD (some (.leaf 0 1))) = ⟨#[3]⟩ := by rw [tx_is]; rfl
theorem ex_n : tx (keyO 0 (exD.take 1) exT) = ⟨#[]⟩ := by
  have e : keyO 0 (exD.take 1) exT = joinK 0 [3] [] := rfl
  rw [e, joinK, if_pos (Or.inr rfl), tx_is]
theorem ex_b : tx (bliO 0 exD exT 1 1) = ⟨#[9]⟩ := by
  have e : placeT exT 1 1 = some (.leaf 1 1) := rfl
  have e2 : keyO 0 exD (some (.leaf 1 1)) = [5] := rfl
  unfold bliO
  rw [e, e2, if_neg (by simp), ex_b5, tx_is]
theorem ex_0 : tx (bliO 0 exD exT 2 0) = ⟨#[]⟩ := by
  have e : placeT exT 2 0 = none := rfl
  have e2 : keyO 0 exD none = [] := rfl
  unfold bliO
  rw [e, e2, if_pos rfl, tx_is]
theorem ex_f : tx (formO exT) = ⟨#[40, 48, 46, 49, 32, 49, 46, 49, 41]⟩ := by
  have e : formO exT = [40] ++ (digN 0 ++ [46] ++ digN 1) ++ [32] ++ (digN 1 ++ [46] ++ digN 1) ++ [41] := rfl
  rw [e, digN_low (by decide), digN_low (by decide), tx_is]
  rfl
theorem ex_s : tx (secL exD (1, 1)) = ⟨#[5]⟩ := by rw [tx_is]; rfl
theorem ex_t : tx (secL exD (2, 1)) = ⟨#[]⟩ := by rw [tx_is]; rfl
theorem ex_g : txt (redN 0 (powN 0 (bval [9]) (bval [3]))) = ⟨#[9]⟩ := by
  have := ex_a9
  unfold agrL at this
  rw [txt_tx, this, tx_is]

set_option maxRecDepth 100000 in
set_option maxHeartbeats 16000000 in
theorem awake14_any (w : World) (hT : Tab w) : Calls Tryz.prog 9 #[] w fun e W' => e = .returned (.bool true) ∧ Below w.heap.size w W' := by
  have HTT : Hid (∀ W, Below w.heap.size w W → Tab W) := Lib.hid fun W hb => hT.next hb
  clear hT
  go_enter Tryz.func9, Tryz.ntmps9
  go_wp2_with fail
  have B : Below w.heap.size w w := Below.refl _ _
  refine (leafL_any 0 w).mono ?_
  rintro e W1 ⟨v0, rfl, h0, hb⟩
  replace B := B.trans (hb.mono B.size)
  clear hb
  have H0 := Lib.hid h0
  clear h0
  go_wp2_with fail
  refine (leafL_any 1 W1).mono ?_
  rintro e W2 ⟨v1, rfl, h1, hb⟩
  replace H0 := Lib.hid (keeps_spots _ _ _ _ _ _ H0.out hb hb.size)
  replace B := B.trans (hb.mono B.size)
  clear hb
  have H1 := Lib.hid h1
  clear h1
  go_wp2_with fail
  refine (refJoin_both v0 v1 [(true, 0, 1)] [(true, 1, 1)] W2 H0.out H1.out (by decide) (by decide) (by decide)).mono ?_
  rintro e W3 ⟨vl, rfl, hl, hb⟩
  replace H0 := Lib.hid (keeps_spots _ _ _ _ _ _ H0.out hb hb.size)
  replace H1 := Lib.hid (keeps_spots _ _ _ _ _ _ H1.out hb hb.size)
  replace B := B.trans (hb.mono B.size)
  clear hb
  replace hl : Spots W3.heap.size W3 (spo exT) [vl] := hl
  have HL := Lib.hid hl
  clear hl
  clear H0
  clear H1
  obtain ⟨lA, lc, rfl, -, -⟩ := spots_len HL.out 3 rfl
  go_wp2_with fail
  refine (drawnL_any 0 _ W3).mono ?_
  rintro e W4 ⟨rfl, hb⟩
  replace HL := Lib.hid (keeps_spots _ _ _ _ _ _ HL.out hb hb.size)
  replace B := B.trans (hb.mono B.size)
  clear hb
  go_wp2_with fail
  refine (drawnL_any 1 _ W4).mono ?_
  rintro e W5 ⟨rfl, hb⟩
  replace HL := Lib.hid (keeps_spots _ _ _ _ _ _ HL.out hb hb.size)
  replace B := B.trans (hb.mono B.size)
  clear hb
  go_wp2_with fail
  obtain ⟨W6, hW, hd, hb⟩ : ∃ W, W5.alloc (.cells #[.int .i64 0, .int .i64 1, .string ⟨#[3]⟩, .int .i64 0, .int .i64 1, .int .i64 1, .string ⟨#[5]⟩, .int .i64 0] 41) = W ∧ Draws W.heap.size W exD [.slice (some ⟨W5.heap.size, 0, none⟩) 2 2] ∧ Below W5.heap.size W5 W := ⟨_, rfl, by
    have h := draws_two W5 ((0, 1), [3], 0) ((1, 1), [5], 0) 41 _ rfl (by decide) (by decide)
    simp only [tx_is] at h
    rw [World.size_alloc]
    exact h, below_new _ _⟩
  rw [hW]
  obtain ⟨gd, hgd⟩ : ∃ g, W5.heap.size = g := ⟨_, rfl⟩
  rw [hgd] at hd
  try rw [hgd]
  replace HL := Lib.hid (keeps_spots _ _ _ _ _ _ HL.out hb hb.size)
  replace B := B.trans (hb.mono B.size)
  clear hb
  have HD := Lib.hid hd
  clear hd hW hgd
  obtain ⟨A3, hr3, hc3⟩ := cut_draws HD.out rfl (Nat.le_refl _) 1 (by decide)
  replace hr3 : ∀ wx, (Instr.slice 23 (.slice (some ⟨gd, 0, none⟩) 2 2) none (some (.int .i64 1)) none).run Tryz.prog wx = .ok (.slice A3 1 2) wx := hr3
  have HR3 := Lib.hid hr3
  have HC := Lib.hid hc3
  clear hr3 hc3
  refine ((show Calls _ _ _ _ (fun e W' => e = .returned (.string ⟨#[9]⟩) ∧ Below W6.heap.size W6 W') from by have := eKey_any 0 exD exT _ _ W6 HL.out HD.out exT_ok exT_ht (exD_sh _); rwa [ex_k] at this)).mono ?_
  rintro e W7 ⟨rfl, hb⟩
  replace HL := Lib.hid (keeps_spots _ _ _ _ _ _ HL.out hb hb.size)
  replace HD := Lib.hid (keeps_draws _ _ _ _ _ _ HD.out hb hb.size)
  replace HC := Lib.hid (keeps_draws _ _ _ _ _ _ HC.out hb hb.size)
  replace B := B.trans (hb.mono B.size)
  clear hb
  go_wp2_with fail
  refine ((show Calls _ _ _ _ (fun e W' => e = .returned (.string ⟨#[9]⟩) ∧ Below W7.heap.size W7 W') from by have := refSagree_any 0 ⟨#[9]⟩ ⟨#[3]⟩ W7 (by decide) (by decide); rwa [show txt (redN 0 (powN 0 (bval (ByteArray.mk #[9]).data.toList) (bval (ByteArray.mk #[3]).data.toList))) = ⟨#[9]⟩ from ex_g] at this)).mono ?_
  rintro e W8 ⟨rfl, hb⟩
  replace HL := Lib.hid (keeps_spots _ _ _ _ _ _ HL.out hb hb.size)
  replace HD := Lib.hid (keeps_draws _ _ _ _ _ _ HD.out hb hb.size)
  replace HC := Lib.hid (keeps_draws _ _ _ _ _ _ HC.out hb hb.size)
  replace B := B.trans (hb.mono B.size)
  clear hb
  go_wp2_with fail
  refine (leafL_any 0 W8).mono ?_
  rintro e W9 ⟨v4, rfl, h4, hb⟩
  replace HL := Lib.hid (keeps_spots _ _ _ _ _ _ HL.out hb hb.size)
  replace HD := Lib.hid (keeps_draws _ _ _ _ _ _ HD.out hb hb.size)
  replace HC := Lib.hid (keeps_draws _ _ _ _ _ _ HC.out hb hb.size)
  replace B := B.trans (hb.mono B.size)
  clear hb
  have H4 := Lib.hid h4
  clear h4
  go_wp2_with fail
  refine ((show Calls _ _ _ _ (fun e W' => e = .returned (.string ⟨#[3]⟩) ∧ Below W9.heap.size W9 W') from by have := eKey_any 0 exD (some (.leaf 0 1)) _ _ W9 H4.out HD.out ex1_ok ex1_ht (exD_sh _); rwa [ex_l] at this)).mono ?_
  rintro e W10 ⟨rfl, hb⟩
  replace HL := Lib.hid (keeps_spots _ _ _ _ _ _ HL.out hb hb.size)
  replace HD := Lib.hid (keeps_draws _ _ _ _ _ _ HD.out hb hb.size)
  replace HC := Lib.hid (keeps_draws _ _ _ _ _ _ HC.out hb hb.size)
  replace H4 := Lib.hid (keeps_spots _ _ _ _ _ _ H4.out hb hb.size)
  replace B := B.trans (hb.mono B.size)
  clear hb
  clear H4
  have hr3 := HR3.out
  go_wp2_with fail
  refine ((show Calls _ _ _ _ (fun e W' => e = .returned (.string ⟨#[]⟩) ∧ Below W10.heap.size W10 W') from by have := eKey_any 0 (exD.take 1) exT _ _ W10 HL.out HC.out exT_ok exT_ht (exE_sh _); rwa [ex_n] at this)).mono ?_
  rintro e W11 ⟨rfl, hb⟩
  replace HL := Lib.hid (keeps_spots _ _ _ _ _ _ HL.out hb hb.size)
  replace HD := Lib.hid (keeps_draws _ _ _ _ _ _ HD.out hb hb.size)
  replace HC := Lib.hid (keeps_draws _ _ _ _ _ _ HC.out hb hb.size)
  replace B := B.trans (hb.mono B.size)
  clear hb
  go_wp2_with fail
  clear hr3
  clear HC
  refine ((show Calls _ _ _ _ (fun e W' => e = .returned (.string ⟨#[9]⟩) ∧ Below W11.heap.size W11 W') from by have := eBlinded_any 0 exD exT 1 1 _ _ W11 HL.out HD.out exT_ok exT_ht (exD_sh _); rwa [ex_b] at this)).mono ?_
  rintro e W12 ⟨rfl, hb⟩
  replace HL := Lib.hid (keeps_spots _ _ _ _ _ _ HL.out hb hb.size)
  replace HD := Lib.hid (keeps_draws _ _ _ _ _ _ HD.out hb hb.size)
  replace B := B.trans (hb.mono B.size)
  clear hb
  go_wp2_with fail
  refine ((show Calls _ _ _ _ (fun e W' => e = .returned (.string ⟨#[]⟩) ∧ Below W12.heap.size W12 W') from by have := eBlinded_any 0 exD exT 2 0 _ _ W12 HL.out HD.out exT_ok exT_ht (exD_sh _); rwa [ex_0] at this)).mono ?_
  rintro e W13 ⟨rfl, hb⟩
  replace HL := Lib.hid (keeps_spots _ _ _ _ _ _ HL.out hb hb.size)
  replace HD := Lib.hid (keeps_draws _ _ _ _ _ _ HD.out hb hb.size)
  replace B := B.trans (hb.mono B.size)
  clear hb
  go_wp2_with fail
  refine ((show Calls _ _ _ _ (fun e W' => e = .returned (.string ⟨#[40, 48, 46, 49, 32, 49, 46, 49, 41]⟩) ∧ Below W13.heap.size W13 W') from by have := eFormal_any exT _ W13 HL.out exT_ok exT_ht (HTT.out _ B); rwa [ex_f] at this)).mono ?_
  rintro e W14 ⟨rfl, hb⟩
  replace HL := Lib.hid (keeps_spots _ _ _ _ _ _ HL.out hb hb.size)
  replace HD := Lib.hid (keeps_draws _ _ _ _ _ _ HD.out hb hb.size)
  replace B := B.trans (hb.mono B.size)
  clear hb
  go_wp2_with fail
  refine ((show Calls _ _ _ _ (fun e W' => e = .returned (.string ⟨#[5]⟩) ∧ Below W14.heap.size W14 W') from by have := eSecret_any _ exD 1 1 W14 HD.out; rwa [ex_s] at this)).mono ?_
  rintro e W15 ⟨rfl, hb⟩
  replace HL := Lib.hid (keeps_spots _ _ _ _ _ _ HL.out hb hb.size)
  replace HD := Lib.hid (keeps_draws _ _ _ _ _ _ HD.out hb hb.size)
  replace B := B.trans (hb.mono B.size)
  clear hb
  go_wp2_with fail
  refine ((show Calls _ _ _ _ (fun e W' => e = .returned (.string ⟨#[]⟩) ∧ Below W15.heap.size W15 W') from by have := eSecret_any _ exD 2 1 W15 HD.out; rwa [ex_t] at this)).mono ?_
  rintro e W16 ⟨rfl, hb⟩
  replace HL := Lib.hid (keeps_spots _ _ _ _ _ _ HL.out hb hb.size)
  replace HD := Lib.hid (keeps_draws _ _ _ _ _ _ HD.out hb hb.size)
  replace B := B.trans (hb.mono B.size)
  clear hb
  go_wp2
  go_ret
  exact ⟨rfl, B⟩

end Go.Proofs.YtjnefacdindamaaGreatDoor
