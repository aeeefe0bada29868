/- Several texts in one: each part says what it proves, and under which conditions. -/
import Derived.Test.YtjnefacdindamaaGreatDoorMulA
import Derived.Test.YtjnefacdindamaaGreatDoorNumA
import Derived.Laws.CopyOwn
import Derived.Test.YtjnefacdindamaaGreatDoorNat

/- modulus.addTimes adds a multiple of a number to limbs that lie in a row; modulus.takeOff takes a number from them; modulus.inverseOf finds an odd limb's inverse. Conditions: the row has room; the number lies elsewhere; lengths below 2^40; the limb is odd. -/
namespace Go.Proofs.YtjnefacdindamaaGreatDoor
open Go.RowKit Go.Shelf Num
set_option linter.unusedVariables false
set_option maxRecDepth 100000

set_option maxRecDepth 100000 in
set_option maxHeartbeats 4000000 in
theorem maddTimes_any (g n o L cap : Nat) (f : Nat → Nat) (vb : Value) (bs : List Nat) (x : Nat) (w : World) (hR : Row w g n f) (hb : Off g w vb bs) (hL : bs.length ≤ L) (ho : o + L ≤ n) (hcap : L ≤ cap) (hx : x < M) (hlb : bs.length ≤ 1099511627776) (hn : n ≤ 4398046511104) :
    Calls Tryz.prog 125 #[.slice (some ⟨g, o, none⟩) L cap, vb, .int .u64 (x : Int)] w fun e w' => ∃ (c : Nat) (f' : Nat → Nat), e = .returned (.int .u64 (c : Int)) ∧ c < M ∧ Row w' g n f' ∧ Only g w w' ∧
      (∀ j, (j < o ∨ o + bs.length ≤ j) → f' j = f j) ∧ sm f' o bs.length + M ^ bs.length * c = sm f o bs.length + x * val bs := by
  have hob := hb.ok
  obtain ⟨A, cb, rfl, hcb, _, hr⟩ := id hb
  go_enter Tryz.func125, Tryz.ntmps125
  go_wp2
  go_loopw [7, 15] (fun c i wr => ∃ (k cc : Nat) (f' : Nat → Nat), k ≤ bs.length ∧ i = .int .i64 k ∧ c = .int .u64 (cc : Int) ∧ cc < M ∧ Row wr g n f' ∧ Only g w wr ∧
      (∀ j, (j < o ∨ o + k ≤ j) → f' j = f j) ∧ sm f' o k + M ^ k * cc = sm f o k + x * sm (lat bs) 0 k)
    (fun _ i _ => bs.length - (intOf i).toNat)
  case atStart => exact ⟨0, 0, f, Nat.zero_le _, rfl, rfl, M_pos, hR, Only.refl _ _, fun _ _ => rfl, by simp [sm]⟩
  case round =>
    obtain ⟨k, c, f', hk, rfl, rfl, hc, hR', hO, hf, he⟩ := hrel
    have HE := Lib.hid he
    have HF := Lib.hid hf
    clear he hf
    by_cases hlt : k < bs.length
    · obtain ⟨b, off, rfl, hbg, hcell⟩ := hr (by omega)
      have hck : wr.cell? ⟨b, off + k, none⟩ = some (.int .u64 ((lat bs k : Nat) : Int)) := (World.cell?_of_block (w := w) (hO.block b hbg)).trans (hcell k hlt)
      clear hcell hr
      have hcs := hR'.cell (j := o + k) (by omega)
      have hfz := hR'.frozen (o + k)
      have hd : decide (k < bs.length) = true := by simpa using hlt
      have hy := ok_get hob k
      have hs := hR'.lim (o + k)
      obtain ⟨s1, s2, s3⟩ := mul_step hx hy hs hc
      have HS := Lib.hid s3
      clear s3
      have hkL : k < L := by omega
      go_wp2_with fail
      refine (mul64_any x (lat bs k) hx hy _).mono ?_
      rintro e W1 ⟨rfl, rfl⟩
      have ha1 : ∀ w, (callFunc 85 #[.int .u64 ((mulLo x (lat bs k) : Nat) : Int), .int .u64 ((f' (o + k) : Nat) : Int), .int .u64 0]).run Tryz.prog w = _ := fun w => add64 (mulLo x (lat bs k)) (f' (o + k)) 0 (by omega) w
      have ha2 : ∀ w, (callFunc 85 #[.int .u64 ((addLo (mulLo x (lat bs k)) (f' (o + k)) 0 : Nat) : Int), .int .u64 (c : Int), .int .u64 0]).run Tryz.prog w = _ := fun w => add64 (addLo (mulLo x (lat bs k)) (f' (o + k)) 0) c 0 (by omega) w
      go_wp2_with fail
      go_roundw
      case rel =>
        refine ⟨k + 1, mulC x (lat bs k) (f' (o + k)) c, upd f' (o + k) (mulN x (lat bs k) (f' (o + k)) c), by omega, by go_num, ?_, s2, hR'.set _ (addLo_lt _ _ _), hO.set _ _, ?_, ?_⟩
        · rw [wrap_add (a := mulHi x (lat bs k)) s1]; exact congrArg (Value.int .u64) (wrap_add (a := mulC1 x (lat bs k) (f' (o + k))) s2)
        · intro j hj
          rw [upd_other _ _ (by omega)]
          exact HF.out j (by omega)
        · rw [sm_upd_last, sm_succ, sm_succ, Nat.pow_succ, ← HF.out (o + k) (by omega), Nat.zero_add]
          exact add_round HE.out HS.out
      case measure => simp [intOf]; omega
    · obtain rfl : k = bs.length := by omega
      have hd : decide (bs.length < bs.length) = false := by simp
      go_wp2
      go_ret
      exact ⟨c, f', rfl, hc, hR', hO, HF.out, by rw [val_sm bs]; exact HE.out⟩

theorem off_round {P a b c r y c' n X : Nat} (h : a + X = b + P * c) (e : n + y + c = r + M * c') : (a + P * n) + (X + P * y) = (b + P * r) + P * M * c' := by
  have := congrArg (P * ·) e
  simp only [Nat.mul_add] at this
  rw [← Nat.mul_assoc] at this
  omega

set_option maxRecDepth 100000 in
set_option maxHeartbeats 4000000 in
theorem takeOff_any (g n o L cap : Nat) (f : Nat → Nat) (vb : Value) (bs : List Nat) (w : World) (hR : Row w g n f) (hb : Off g w vb bs) (hL : bs.length ≤ L) (ho : o + L ≤ n) (hcap : L ≤ cap) (hlb : bs.length ≤ 1099511627776) (hn : n ≤ 4398046511104) :
    Calls Tryz.prog 126 #[.slice (some ⟨g, o, none⟩) L cap, vb] w fun e w' => ∃ (b : Nat) (f' : Nat → Nat), e = .returned (.tuple #[]) ∧ b ≤ 1 ∧ Row w' g n f' ∧ Only g w w' ∧
      (∀ j, (j < o ∨ o + bs.length ≤ j) → f' j = f j) ∧ sm f' o bs.length + val bs = sm f o bs.length + M ^ bs.length * b := by
  have hob := hb.ok
  obtain ⟨A, cb, rfl, hcb, _, hr⟩ := id hb
  go_enter Tryz.func126, Tryz.ntmps126
  go_wp2
  go_loopw [4, 9] (fun c i wr => ∃ (k cc : Nat) (f' : Nat → Nat), k ≤ bs.length ∧ i = .int .i64 k ∧ c = .int .u64 (cc : Int) ∧ cc ≤ 1 ∧ Row wr g n f' ∧ Only g w wr ∧
      (∀ j, (j < o ∨ o + k ≤ j) → f' j = f j) ∧ sm f' o k + sm (lat bs) 0 k = sm f o k + M ^ k * cc)
    (fun _ i _ => bs.length - (intOf i).toNat)
  case atStart => exact ⟨0, 0, f, Nat.zero_le _, rfl, rfl, Nat.zero_le _, hR, Only.refl _ _, fun _ _ => rfl, by simp [sm]⟩
  case round =>
    obtain ⟨k, c, f', hk, rfl, rfl, hc, hR', hO, hf, he⟩ := hrel
    have HE := Lib.hid he
    have HF := Lib.hid hf
    clear he hf
    by_cases hlt : k < bs.length
    · obtain ⟨b, off, rfl, hbg, hcell⟩ := hr (by omega)
      have hck : wr.cell? ⟨b, off + k, none⟩ = some (.int .u64 ((lat bs k : Nat) : Int)) := (World.cell?_of_block (w := w) (hO.block b hbg)).trans (hcell k hlt)
      clear hcell hr
      have hcs := hR'.cell (j := o + k) (by omega)
      have hfz := hR'.frozen (o + k)
      have hd : decide (k < bs.length) = true := by simpa using hlt
      have hy := ok_get hob k
      have hs := hR'.lim (o + k)
      have hkL : k < L := by omega
      have s1 := subHi_le (f' (o + k)) (lat bs k) c
      have s3 := sub_split hs hy hc
      have HS := Lib.hid s3
      clear s3
      have ha1 : ∀ w, (callFunc 84 #[.int .u64 ((f' (o + k) : Nat) : Int), .int .u64 ((lat bs k : Nat) : Int), .int .u64 (c : Int)]).run Tryz.prog w = _ := fun w => sub64 (f' (o + k)) (lat bs k) c hc w
      go_wp2_with fail
      go_roundw
      case rel =>
        refine ⟨k + 1, subHi (f' (o + k)) (lat bs k) c, upd f' (o + k) (subLo (f' (o + k)) (lat bs k) c), by omega, by go_num, rfl, s1, hR'.set _ (subLo_lt _ _ _), hO.set _ _, ?_, ?_⟩
        · intro j hj
          rw [upd_other _ _ (by omega)]
          exact HF.out j (by omega)
        · rw [sm_upd_last, sm_succ, sm_succ, Nat.pow_succ, ← HF.out (o + k) (by omega), Nat.zero_add]
          exact off_round HE.out HS.out
      case measure => simp [intOf]; omega
    · obtain rfl : k = bs.length := by omega
      have hd : decide (bs.length < bs.length) = false := by simp
      go_wp2
      go_end0
      exact ⟨c, f', rfl, hc, hR', hO, HF.out, by rw [val_sm bs]; exact HE.out⟩

theorem newton_nat {a n : Nat} (ha : a < M) (hn : n < M) {k : Nat} (hk : k < 5) (h : (2 : Int) ^ nbit k ∣ (a : Int) * (n : Int) - 1) :
    ∃ n' : Nat, n' < M ∧ IntKind.u64.wrap ((n : Int) * IntKind.u64.wrap (2 - IntKind.u64.wrap ((a : Int) * (n : Int)))) = (n' : Int) ∧ (2 : Int) ^ nbit (k + 1) ∣ (a : Int) * (n' : Int) - 1 := by
  obtain ⟨h1, h2⟩ := nbit_next hk
  have hN := newton h h1 h2
  simp only [IntKind.wrap_u64]
  obtain ⟨n', e⟩ : ∃ n' : Nat, (n : Int) * ((2 - (a : Int) * (n : Int) % 18446744073709551616) % 18446744073709551616) % 18446744073709551616 = (n' : Int) := ⟨_, (Int.toNat_of_nonneg (Int.emod_nonneg _ (by decide))).symm⟩
  rw [e] at hN
  refine ⟨n', ?_, e, hN⟩
  have := Int.emod_lt_of_pos ((n : Int) * ((2 - (a : Int) * (n : Int) % 18446744073709551616) % 18446744073709551616)) (show (0 : Int) < 18446744073709551616 by decide)
  unfold M
  omega

set_option maxRecDepth 100000 in
set_option maxHeartbeats 4000000 in
theorem inverseOf_any (a : Nat) (w : World) (ha : a < M) (ho : a % 2 = 1) :
    Calls Tryz.prog 110 #[.int .u64 (a : Int)] w fun e w' => ∃ i : Nat, e = .returned (.int .u64 (i : Int)) ∧ i < M ∧ a * i % M = 1 ∧ w' = w := by
  go_enter Tryz.func110, Tryz.ntmps110
  go_wp2
  go_loopw [3, 5] (fun c i wr => ∃ (k n : Nat), k ≤ 5 ∧ i = .int .i64 k ∧ c = .int .u64 (n : Int) ∧ n < M ∧ wr = w ∧ (2 : Int) ^ nbit k ∣ (a : Int) * (n : Int) - 1)
    (fun _ i _ => 5 - (intOf i).toNat)
  case atStart => exact ⟨0, a, by omega, rfl, rfl, ha, rfl, newton_start ho⟩
  case round =>
    obtain ⟨k, n, hk, rfl, rfl, hn, rfl, he⟩ := hrel
    have HE := Lib.hid he
    clear he
    by_cases hlt : k < 5
    · have hd : decide ((k : Int) < 5) = true := by simp; omega
      go_wp2_with fail
      go_roundw
      case rel =>
        obtain ⟨n', h1, h2, h3⟩ := newton_nat ha hn hlt HE.out
        exact ⟨k + 1, n', by omega, by go_num, congrArg (Value.int .u64) h2, h1, trivial, h3⟩
      case measure => simp [intOf]; omega
    · obtain rfl : k = 5 := by omega
      go_wp2
      go_ret
      exact ⟨n, rfl, hn, newton_end HE.out, rfl⟩

end Go.Proofs.YtjnefacdindamaaGreatDoor


/- (modulus.odd).fill answers a number with noughts on top, as many limbs as the odd number has. Conditions: the slices read as limbs; lengths below 2^40. -/
namespace Go.Proofs.YtjnefacdindamaaGreatDoor
open Go.RowKit Go.Shelf Num
set_option linter.unusedVariables false
set_option maxRecDepth 100000

/-- Answers a list of L limbs that is the number n; nothing below is turned. -/
def Fills (L n : Nat) (w : World) : Ending → World → Prop := fun e W' => ∃ r rs, e = .returned r ∧ Lim W'.heap.size W' r rs ∧ rs.length = L ∧ val rs = n ∧ Below w.heap.size w W'

theorem lim_of_cells {w : World} {g : Nat} {xs : List Nat} (h : w.heap[g]? = some (.cells (Us xs).toArray 74 (0, 0))) (ho : Ok xs) : Lim w.heap.size w (.slice (some ⟨g, 0, none⟩) xs.length xs.length) xs := by
  refine ⟨_, _, rfl, Nat.le_refl _, (fun h => by cases h), ho, fun hp => ⟨g, 0, rfl, (Array.getElem?_eq_some_iff.1 h).1, fun j hj => ?_⟩⟩
  simp [World.cell?, h, Us, lat, hj]

def noughts (n : Nat) : List Nat := List.replicate n 0
theorem noughts_ok (n : Nat) : Ok (noughts n) := fun x hx => by rw [(List.mem_replicate.1 hx).2]; exact M_pos
theorem noughts_val (n : Nat) : val (noughts n) = 0 := by
  induction n with
  | zero => rfl
  | succ n ih => show 0 + M * val (noughts n) = 0; rw [ih, Nat.mul_zero]
theorem noughts_len (n : Nat) : (noughts n).length = n := List.length_replicate
theorem made_noughts (n : Nat) : (madeCells #[.int .u64 0] n) = (Us (noughts n)).toArray := by
  apply Array.toList_inj.1
  rw [toList_madeCells_one]
  simp [Us, noughts]
theorem splice_fill (L : Nat) (xs : List Nat) (h : xs.length ≤ L) : splice (Us (noughts L)) 0 (Us xs) = Us (xs ++ noughts (L - xs.length)) := by
  simp [splice, Us, noughts, List.drop_replicate]

theorem heap_last (w : World) (o : Obj) : (w.alloc o).heap[w.heap.size]? = some o := Array.getElem?_push_size
theorem made_at (w : World) (o : Obj) (n : Nat) : ((w.alloc o).alloc (.cells (madeCells #[.int .u64 0] n) 74)).heap[w.heap.size + 1]? = some (.cells (Us (noughts n)).toArray 74 (0, 0)) := by
  rw [made_noughts]
  have h := heap_last (w.alloc o) (.cells (Us (noughts n)).toArray 74)
  rwa [World.size_alloc] at h
theorem lim_src {n₀ : Nat} {w : World} {B : Option Addr} {n c : Nat} {xs : List Nat} (h : Lim n₀ w (.slice B n c) xs) (hp : 0 < xs.length) : ∃ ad, B = some ad ∧ ∀ j v, (Us xs)[j]? = some v → w.cell? (ad.add j) = some v := by
  obtain ⟨A', c', hv, _, _, _, hr⟩ := id h
  injection hv with h1 h2 h3
  obtain ⟨b, off, rfl, _⟩ := hr hp
  subst h1
  have := lim_cells h xs.length (Nat.le_refl _)
  rw [List.take_length] at this
  exact ⟨_, rfl, this⟩

set_option maxRecDepth 100000 in
set_option maxHeartbeats 4000000 in
theorem fill_any (v u : Value) (ms xs : List Nat) (i : Nat) (w : World) (hLm : Lim w.heap.size w v ms) (hLx : Lim w.heap.size w u xs) (hlm : ms.length ≤ 549755813888) (hle : xs.length ≤ ms.length) :
    Calls Tryz.prog 113 #[.agg #[v, .int .u64 (i : Int)], u] w (Fills ms.length (val xs) w) := by
  obtain ⟨i0, hi, hz0, hz1, hz2⟩ := info_parts infoU
  have hsz : (Tryz.prog.info? 74).map (·.size) = some 1 := by rw [hi]; simp [hz1]
  obtain ⟨A, ca, rfl, hca, hna, _, hra⟩ := id hLm
  obtain ⟨B, cb, rfl, hcb, hnb, hox, hrb⟩ := id hLx
  go_enter Tryz.func113, Tryz.ntmps113
  go_wp2_with (first
    | refine wpList_make_row _ rfl _ _ 69 rfl 74 i0 (.int .u64 0) Tryz.underlying69 hi hz0 hz1 rfl .i64 .i64 ms.length rfl rfl (by rw [hz2]; omega) (by omega) ?_
    | (refine wpList_copy_splice rfl (.tmp 10) (.tmp 11) 69 69 rfl 74 Tryz.underlying69 hsz _ _ _ _ _ _ rfl rfl (w.heap.size + 1) 0 (Us (noughts ms.length)) 74 (made_at w _ _) (Us xs) (by rw [Us_length]; exact (Nat.min_eq_left hle).symm) (fun hp => ⟨rfl, lim_src ((hLx.alloc _).alloc _) (by rwa [Us_length] at hp)⟩) (by rw [Us_length, Us_length, noughts_len]; omega) (Us_cell _) w.heap.size w (((Below.refl _ w).alloc (Nat.le_refl _) _).alloc (by simp) _) (by omega) ?_; intro w2 HG2 hB2))
  go_ret
  have hG := HG2.out
  rw [splice_fill _ _ hle] at hG
  have hl : (xs ++ noughts (ms.length - xs.length)).length = ms.length := by rw [List.length_append, noughts_len]; omega
  have hL := lim_of_cells hG (ok_append hox (noughts_ok _))
  rw [hl] at hL
  refine ⟨_, _, rfl, hL, hl, ?_, hB2⟩
  rw [val_append, noughts_val, Nat.mul_zero, Nat.add_zero]

end Go.Proofs.YtjnefacdindamaaGreatDoor


/- append of a list of limbs that came in, nil or not, onto a row of the call's own: what it leaves; the operation may be guarded. Conditions: the guard is met; lengths below 2^41. -/
namespace Go.Proofs.YtjnefacdindamaaGreatDoor
open Go.RowKit Go.Shelf Num
set_option linter.unusedVariables false
set_option maxRecDepth 100000

theorem append_lim {ops : Array Oper} {rest : List Oper} {o : Oper} {a : Act} {Q : Exit → Act → World → Prop} (w : World) (hw : Region.wanted o (yielded ops a.tmps) = true) (s x : Operand)
    (ho : o.op = .call { callee := .builtin .append, args := #[s, x], argTypes := #[69, 69] })
    (base : Nat) (v : Value) (n : Nat) (ys : List Value) (hs : a.eval s = v) (hown : w.ownsRow base 74 1 v n ys)
    (n₀ : Nat) (A : Option Addr) (m c : Nat) (xs : List Nat) (hx : a.eval x = .slice A m c) (hL : Lim n₀ w (.slice A m c) xs) (hb : n + m ≤ 2199023255552) (hbase : base ≤ w.heap.size)
    (h : ∀ v' w', w'.ownsRow base 74 1 v' (n + xs.length) (ys ++ Us xs) → w.grownBy w' v.ownBlock → wpList Tryz.prog ops Q rest (a.put o.dst v') w') : wpList Tryz.prog ops Q (o :: rest) a w := by
  obtain ⟨i0, hi, hz0, hz1, hz2⟩ := info_parts infoU
  have hm := hL.len
  refine BigFrame.wpList_want hw fun K hK => ?_
  cases A with
  | none =>
    obtain ⟨A', c', hv, hc', hz, _⟩ := hL
    injection hv with h1 h2 h3
    have hc0 := hz h1.symm
    have hx0 : xs = [] := List.eq_nil_of_length_eq_zero (by omega)
    subst hx0
    have hm0 : m = 0 := hm
    have hcc : c = 0 := by omega
    subst hm0 hcc
    have hrun := run_append_owned_none (P := Tryz.prog) (w := w) base 69 o.type 74 i0 1 Tryz.underlying69 hi v n ys hown
    unfold Oper.wp
    simp [execOp, ho, resolve, invoke, builtin, hs, hx, hrun, Result.andThen]
    exact hK _ _ (h v w (by simpa [Us] using hown) (World.grownBy.refl w _))
  | some ad =>
    subst hm
    refine wp_append_own w s x 69 ho base 74 i0 (.int .u64 0) 1 8 Tryz.underlying69 hi hz0 hz1 hz2 rfl (by decide) v n ys hs hown ad xs.length c (Us xs) hx (by rw [Us_length]; omega) ?_ (Us_cell _) (by unfold maxLen; omega) (by omega) hbase ?_
    · have := lim_cells hL xs.length (Nat.le_refl _)
      rwa [List.take_length] at this
    · intro v' w' h1 h2 _
      exact hK _ _ (h v' w' h1 h2)

end Go.Proofs.YtjnefacdindamaaGreatDoor
