/- The document's Left (package lodgeref07): Num, Text and Done. Condition: the pointer points to a Left that may be written to. -/
import Derived.Test.YtgnebmandifhiaaLayM
namespace Go.Proofs.Ytgnebmandifhiaa
open Go.RowKit
set_option linter.unusedVariables false

set_option maxRecDepth 100000 in
set_option maxHeartbeats 4000000 in
theorem rleftNum_no (b : Nat) (l : List UInt8) (x : Bool) (m : Int) (w : World) (h : LeftAt w b l x) (hk : x = true ∨ l.length < 4) :
    Calls Try.prog 42 #[.pointer (some ⟨b, 0, none⟩), .int .i64 m] w fun e W' => e = .returned (.int .i64 0) ∧ LeftAt W' b l true ∧ Only b w W' := by
  have HL := Lib.hid (h.bad true)
  obtain ⟨h0, h1, f0, f1⟩ := h
  cases x with
  | true =>
    clear hk
    go_enter Try.func42, Try.ntmps42
    go_wp2
    go_ret
    exact ⟨rfl, HL.out, (Only.refl _ _).set _ _⟩
  | false =>
    have hlt : l.length < 4 := by simpa using hk
    have hs : (tx l).size = l.length := tx_size l
    have hd : decide ((l.length : Int) < 4) = true := decide_eq_true (by omega)
    clear hk
    go_enter Try.func42, Try.ntmps42
    go_wp2
    go_ret
    exact ⟨rfl, HL.out, (Only.refl _ _).set _ _⟩

/-- Four bytes of a longer text, one by one, and the number that they are. -/
theorem four_in (l : List UInt8) (hk : 4 ≤ l.length) : ∃ T : ByteArray, tx l = T ∧ T.size = l.length ∧ ∃ (h0 : 0 < T.size) (h1 : 1 < T.size) (h2 : 2 < T.size) (h3 : 3 < T.size), T[0].toNat * 16777216 + T[1].toNat * 65536 + T[2].toNat * 256 + T[3].toNat = nb4 l := by
  have hz : 4 ≤ (tx l).size := by rw [tx_size]; omega
  refine ⟨_, rfl, tx_size l, by omega, by omega, by omega, by omega, ?_⟩
  rw [tx_get, tx_get, tx_get, tx_get]
  match l, hk with
  | a :: b :: c :: d :: r, _ => rfl

set_option maxRecDepth 100000 in
set_option maxHeartbeats 4000000 in
theorem rleftNum_yes (b : Nat) (l : List UInt8) (m : Int) (w : World) (h : LeftAt w b l false) (hk : 4 ≤ l.length) (hl : l.length ≤ 9223372036854775807) (hm : (nb4 l : Int) ≤ m) (hn : nb4 l < 2147483648) :
    Calls Try.prog 42 #[.pointer (some ⟨b, 0, none⟩), .int .i64 m] w fun e W' => e = .returned (.int .i64 (nb4 l : Int)) ∧ LeftAt W' b (l.drop 4) false ∧ Only b w W' := by
  obtain ⟨T, hT, hz, t0, t1, t2, t3, hN⟩ := four_in l hk
  have hL : ∀ w' : World, LeftAt w' b l false → LeftAt (w'.setCell ⟨b, 0, none⟩ (.string (T.extract 4 T.size))) b (l.drop 4) false := fun w' h' => by
    have := h'.rest (l.drop 4)
    rwa [← tx_drop l 4, hT] at this
  have HL := Lib.hid hL
  have HW := Lib.hid h
  obtain ⟨h0, h1, f0, f1⟩ := h
  rw [hT] at h0
  have i1 : (1 : Int) < (T.size : Int) := by omega
  have i2 : (2 : Int) < (T.size : Int) := by omega
  have i3 : (3 : Int) < (T.size : Int) := by omega
  have d4 : decide ((T.size : Int) < 4) = false := decide_eq_false (by omega)
  have hz4 : 4 ≤ T.size := by omega
  have hz5 : T.size ≤ 9223372036854775807 := by omega
  have hj := join_i64 T[0].toNat_lt T[1].toNat_lt T[2].toNat_lt T[3].toNat_lt
  rw [hN] at hj
  have HJ := Lib.hid hj
  have c0 : T[0].toNat < 256 := T[0].toNat_lt
  have c1 : T[1].toNat < 256 := T[1].toNat_lt
  have c2 : T[2].toNat < 256 := T[2].toNat_lt
  have c3 : T[3].toNat < 256 := T[3].toNat_lt
  clear hz hT hL hl hk hN hj
  generalize nb4 l = n at *
  go_enter Try.func42, Try.ntmps42
  go_wp2_with fail
  go_quiet (fail)
  rw [HJ.out]
  have d1 : decide (m < (n : Int)) = false := decide_eq_false (by omega)
  have d2 : decide ((2147483648 : Int) ≤ (n : Int)) = false := decide_eq_false (by omega)
  clear HJ
  go_wp2
  go_ret
  exact ⟨rfl, HL.out _ (HW.out.keep (w' := w.drewN _) rfl), ((Only.refl _ _).drewN _).set _ _⟩

set_option maxRecDepth 100000 in
set_option maxHeartbeats 4000000 in
theorem rleftNum_big (b : Nat) (l : List UInt8) (m : Int) (w : World) (h : LeftAt w b l false) (hk : 4 ≤ l.length) (hl : l.length ≤ 9223372036854775807) (hn : 2147483648 ≤ nb4 l ∨ m < (nb4 l : Int)) :
    Calls Try.prog 42 #[.pointer (some ⟨b, 0, none⟩), .int .i64 m] w fun e W' => e = .returned (.int .i64 0) ∧ LeftAt W' b l true ∧ Only b w W' := by
  obtain ⟨T, hT, hz, t0, t1, t2, t3, hN⟩ := four_in l hk
  have HW := Lib.hid h
  have HN := Lib.hid hn
  obtain ⟨h0, h1, f0, f1⟩ := h
  rw [hT] at h0
  have i1 : (1 : Int) < (T.size : Int) := by omega
  have i2 : (2 : Int) < (T.size : Int) := by omega
  have i3 : (3 : Int) < (T.size : Int) := by omega
  have d4 : decide ((T.size : Int) < 4) = false := decide_eq_false (by omega)
  have hz4 : 4 ≤ T.size := by omega
  have hz5 : T.size ≤ 9223372036854775807 := by omega
  have hj := join_i64 T[0].toNat_lt T[1].toNat_lt T[2].toNat_lt T[3].toNat_lt
  rw [hN] at hj
  have HJ := Lib.hid hj
  have c0 : T[0].toNat < 256 := T[0].toNat_lt
  have c1 : T[1].toNat < 256 := T[1].toNat_lt
  have c2 : T[2].toNat < 256 := T[2].toNat_lt
  have c3 : T[3].toNat < 256 := T[3].toNat_lt
  have hlt := nb4_lt l
  clear hz hT hl hk hN hj hn
  generalize nb4 l = n at *
  go_enter Try.func42, Try.ntmps42
  go_wp2_with fail
  go_quiet (fail)
  rw [HJ.out]
  by_cases hb : m < (n : Int)
  · have d1 : decide (m < (n : Int)) = true := decide_eq_true (by omega)
    clear HJ HN
    go_wp2
    go_ret
    exact ⟨rfl, (HW.out.keep (w' := w.drewN _) rfl).bad true, ((Only.refl _ _).drewN _).set _ _⟩
  · have hm : 2147483648 ≤ n := HN.out.resolve_right hb
    have d1 : decide (m < (n : Int)) = false := decide_eq_false (by omega)
    have d2 : decide ((2147483648 : Int) ≤ (n : Int)) = true := decide_eq_true (by omega)
    clear HJ HN
    go_wp2
    go_ret
    exact ⟨rfl, (HW.out.keep (w' := w.drewN _) rfl).bad true, ((Only.refl _ _).drewN _).set _ _⟩

theorem rleftNum_is (b : Nat) (l : List UInt8) (x : Bool) (m : Int) (w : World) (h : LeftAt w b l x) (hl : l.length ≤ 9223372036854775807) (hn : hasN l x m) :
    Calls Try.prog 42 #[.pointer (some ⟨b, 0, none⟩), .int .i64 m] w fun e W' => e = .returned (.int .i64 (nb4 l : Int)) ∧ LeftAt W' b (l.drop 4) false ∧ Only b w W' := by
  obtain ⟨rfl, h4, h31, hm⟩ := hn
  exact rleftNum_yes b l m w h h4 hl hm h31
theorem rleftNum_not (b : Nat) (l : List UInt8) (x : Bool) (m : Int) (w : World) (h : LeftAt w b l x) (hl : l.length ≤ 9223372036854775807) (hn : ¬ hasN l x m) :
    Calls Try.prog 42 #[.pointer (some ⟨b, 0, none⟩), .int .i64 m] w fun e W' => e = .returned (.int .i64 0) ∧ BadAt W' b l.length ∧ Only b w W' := by
  by_cases h1 : x = true ∨ l.length < 4
  · refine (rleftNum_no b l x m w h h1).mono ?_
    rintro e W ⟨he, hL, hO⟩
    exact ⟨he, ⟨l, Nat.le_refl _, hL⟩, hO⟩
  · have hx : x = false := by simpa using fun e => h1 (Or.inl e)
    subst hx
    have h4 : 4 ≤ l.length := by omega
    refine (rleftNum_big b l m w h h4 hl ?_).mono ?_
    · unfold hasN at hn
      by_cases h2 : 2147483648 ≤ nb4 l
      · exact Or.inl h2
      · refine Or.inr ?_
        by_cases h3 : m < (nb4 l : Int)
        · exact h3
        · exact absurd ⟨rfl, h4, by omega, by omega⟩ hn
    · rintro e W ⟨he, hL, hO⟩
      exact ⟨he, ⟨l, Nat.le_refl _, hL⟩, hO⟩



end Go.Proofs.Ytgnebmandifhiaa
