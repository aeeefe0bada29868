/- lay.Left's Num, Text and Done. Condition: the pointer points to a Left that may be written to. -/
import Derived.Test.YtgnebmandifhiaaLayL
namespace Go.Proofs.Ytgnebmandifhiaa
open Go.RowKit
set_option linter.unusedVariables false

set_option maxRecDepth 100000 in
set_option maxHeartbeats 4000000 in
theorem leftNum_no (b : Nat) (l : List UInt8) (x : Bool) (m : Int) (w : World) (h : LeftAt w b l x) (hk : x = true ∨ l.length < 4) :
    Calls Try.prog 40 #[.pointer (some ⟨b, 0, none⟩), .int .i64 m] w fun e W' => e = .returned (.int .i64 0) ∧ LeftAt W' b l true ∧ Only b w W' := by
  have HK := Lib.hid hk
  clear hk
  go_enter Try.func40, Try.ntmps40
  go_wp2_with fail
  refine (take_no b l x 4 _ h HK.out).mono ?_
  rintro e W1 ⟨rfl, h1, o1⟩
  go_wp2
  go_ret
  exact ⟨rfl, h1, o1⟩

/-- Four bytes, one by one, and the number that they are. -/
theorem four_of (l : List UInt8) (hk : 4 ≤ l.length) : ∃ T : ByteArray, tx (l.take 4) = T ∧ ∃ (h0 : 0 < T.size) (h1 : 1 < T.size) (h2 : 2 < T.size) (h3 : 3 < T.size), T[0].toNat * 16777216 + T[1].toNat * 65536 + T[2].toNat * 256 + T[3].toNat = nb4 l := by
  have hz : 4 ≤ (tx (l.take 4)).size := by rw [tx_size]; simp; omega
  refine ⟨_, rfl, by omega, by omega, by omega, by omega, ?_⟩
  rw [tx_get, tx_get, tx_get, tx_get]
  match l, hk with
  | a :: b :: c :: d :: r, _ => rfl

set_option maxRecDepth 100000 in
set_option maxHeartbeats 4000000 in
theorem leftNum_yes (b : Nat) (l : List UInt8) (m : Int) (w : World) (h : LeftAt w b l false) (hk : 4 ≤ l.length) (hl : l.length ≤ 9223372036854775807) (hm : (nb4 l : Int) ≤ m) (hn : nb4 l < 2147483648) :
    Calls Try.prog 40 #[.pointer (some ⟨b, 0, none⟩), .int .i64 m] w fun e W' => e = .returned (.int .i64 (nb4 l : Int)) ∧ LeftAt W' b (l.drop 4) false ∧ Only b w W' := by
  obtain ⟨T, hT, t0, t1, t2, t3, hN⟩ := four_of l hk
  have hj := join_u32 T[0].toNat_lt T[1].toNat_lt T[2].toNat_lt T[3].toNat_lt
  rw [hN] at hj
  have HJ := Lib.hid hj
  have HT := Lib.hid hT
  have hlt := nb4_lt l
  clear hT hN hj
  generalize nb4 l = n at *
  go_enter Try.func40, Try.ntmps40
  go_wp2_with fail
  refine (take_yes b l 4 _ h hk hl).mono ?_
  rintro e W1 ⟨rfl, h1, o1⟩
  rw [HT.out]
  have i1 : (1 : Int) < (T.size : Int) := by omega
  have i2 : (2 : Int) < (T.size : Int) := by omega
  have i3 : (3 : Int) < (T.size : Int) := by omega
  go_wp2_with fail
  go_quiet (fail)
  rw [HJ.out]
  have d1 : decide (2147483647 < (n : Int)) = false := decide_eq_false (by omega)
  have d2 : decide (m < (n : Int)) = false := decide_eq_false (by omega)
  clear HJ
  go_wp2
  go_ret
  exact ⟨rfl, h1.keep rfl, o1.drewN _⟩

set_option maxRecDepth 100000 in
set_option maxHeartbeats 4000000 in
theorem leftNum_big (b : Nat) (l : List UInt8) (m : Int) (w : World) (h : LeftAt w b l false) (hk : 4 ≤ l.length) (hl : l.length ≤ 9223372036854775807) (hn : 2147483648 ≤ nb4 l ∨ m < (nb4 l : Int)) :
    Calls Try.prog 40 #[.pointer (some ⟨b, 0, none⟩), .int .i64 m] w fun e W' => e = .returned (.int .i64 0) ∧ LeftAt W' b (l.drop 4) true ∧ Only b w W' := by
  have HN := Lib.hid hn
  clear hn
  obtain ⟨T, hT, t0, t1, t2, t3, hN⟩ := four_of l hk
  have hj := join_u32 T[0].toNat_lt T[1].toNat_lt T[2].toNat_lt T[3].toNat_lt
  rw [hN] at hj
  have HJ := Lib.hid hj
  have HT := Lib.hid hT
  have hlt := nb4_lt l
  clear hT hN hj
  generalize nb4 l = n at *
  go_enter Try.func40, Try.ntmps40
  go_wp2_with fail
  refine (take_yes b l 4 _ h hk hl).mono ?_
  rintro e W1 ⟨rfl, h1, o1⟩
  rw [HT.out]
  have i1 : (1 : Int) < (T.size : Int) := by omega
  have i2 : (2 : Int) < (T.size : Int) := by omega
  have i3 : (3 : Int) < (T.size : Int) := by omega
  obtain ⟨s1, g1, f0, f1⟩ := id h1
  go_wp2_with fail
  go_quiet (fail)
  rw [HJ.out]
  by_cases hb : 2147483648 ≤ n
  · have d1 : decide (2147483647 < (n : Int)) = true := decide_eq_true (by omega)
    clear HJ HN
    go_wp2
    go_ret
    exact ⟨rfl, (h1.keep (w' := W1.drewN _) rfl).bad true, (o1.drewN _).set _ _⟩
  · have hm : m < (n : Int) := HN.out.resolve_left hb
    have d1 : decide (2147483647 < (n : Int)) = false := decide_eq_false (by omega)
    have d2 : decide (m < (n : Int)) = true := decide_eq_true (by omega)
    clear HJ HN
    go_wp2
    go_ret
    exact ⟨rfl, (h1.keep (w' := W1.drewN _) rfl).bad true, (o1.drewN _).set _ _⟩

/-- A Left that is Bad, whatever is left, but not more than so many bytes. -/
def BadAt (w : World) (b : Nat) (n : Nat) : Prop := ∃ r : List UInt8, r.length ≤ n ∧ LeftAt w b r true
/-- A number, at most m, is next. -/
def hasN (l : List UInt8) (x : Bool) (m : Int) : Prop := x = false ∧ 4 ≤ l.length ∧ nb4 l < 2147483648 ∧ (nb4 l : Int) ≤ m
instance (l : List UInt8) (x : Bool) (m : Int) : Decidable (hasN l x m) := by unfold hasN; infer_instance
/-- A text, of at most m bytes, is next. -/
def hasT (l : List UInt8) (x : Bool) (m : Int) : Prop := hasN l x m ∧ 4 + nb4 l ≤ l.length
instance (l : List UInt8) (x : Bool) (m : Int) : Decidable (hasT l x m) := by unfold hasT; infer_instance

theorem leftNum_is (b : Nat) (l : List UInt8) (x : Bool) (m : Int) (w : World) (h : LeftAt w b l x) (hl : l.length ≤ 9223372036854775807) (hn : hasN l x m) :
    Calls Try.prog 40 #[.pointer (some ⟨b, 0, none⟩), .int .i64 m] w fun e W' => e = .returned (.int .i64 (nb4 l : Int)) ∧ LeftAt W' b (l.drop 4) false ∧ Only b w W' := by
  obtain ⟨rfl, h4, h31, hm⟩ := hn
  exact leftNum_yes b l m w h h4 hl hm h31
theorem leftNum_not (b : Nat) (l : List UInt8) (x : Bool) (m : Int) (w : World) (h : LeftAt w b l x) (hl : l.length ≤ 9223372036854775807) (hn : ¬ hasN l x m) :
    Calls Try.prog 40 #[.pointer (some ⟨b, 0, none⟩), .int .i64 m] w fun e W' => e = .returned (.int .i64 0) ∧ BadAt W' b l.length ∧ Only b w W' := by
  by_cases h1 : x = true ∨ l.length < 4
  · refine (leftNum_no b l x m w h h1).mono ?_
    rintro e W ⟨he, hL, hO⟩
    exact ⟨he, ⟨l, Nat.le_refl _, hL⟩, hO⟩
  · have hx : x = false := by simpa using fun e => h1 (Or.inl e)
    subst hx
    have h4 : 4 ≤ l.length := by omega
    refine (leftNum_big b l m w h h4 hl ?_).mono ?_
    · unfold hasN at hn
      by_cases h2 : 2147483648 ≤ nb4 l
      · exact Or.inl h2
      · refine Or.inr ?_
        by_cases h3 : m < (nb4 l : Int)
        · exact h3
        · exact absurd ⟨rfl, h4, by omega, by omega⟩ hn
    · rintro e W ⟨he, hL, hO⟩
      exact ⟨he, ⟨_, by simp, hL⟩, hO⟩


set_option maxRecDepth 100000 in
set_option maxHeartbeats 4000000 in
theorem leftDone_any (b : Nat) (l : List UInt8) (x : Bool) (w : World) (h : LeftAt w b l x) :
    Calls Try.prog 27 #[.pointer (some ⟨b, 0, none⟩)] w fun e W' => e = .returned (.bool (!x && l.isEmpty)) ∧ w = W' := by
  obtain ⟨h0, h1, f0, f1⟩ := h
  have he : (tx l).toList.isEmpty = l.isEmpty := by rw [tx_list]
  generalize l.isEmpty = y at *
  cases x <;> cases y
  all_goals
    go_enter Try.func27, Try.ntmps27
    go_wp2
    go_ret
    exact ⟨rfl, rfl⟩

end Go.Proofs.Ytgnebmandifhiaa
