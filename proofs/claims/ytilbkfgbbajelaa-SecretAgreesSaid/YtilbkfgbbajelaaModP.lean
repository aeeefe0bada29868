/- modulus.Power answers what a power leaves; by Montgomery's products, of an odd number. Conditions: the slices read as limbs; lengths below 2^36. -/
import Derived.Test.YtilbkfgbbajelaaModLA
import Derived.Test.YtilbkfgbbajelaaModT
import Derived.Deep.RegionHeld3
import Derived.Deep.DeepCutAuto
namespace Go.Proofs.Ytilbkfgbbajelaa
open Go.RowKit Go.Shelf Num
set_option linter.unusedVariables false

/-- Lifted: as many limbs as the odd number m, L; a to the power of k, times 2^64 to the L. -/
def Lifted (a m L k : Nat) (xs : List Nat) : Prop := xs.length = L ∧ val xs % m = pm a k m * M ^ L % m

theorem lifted_one {a m L : Nat} {xs : List Nat} (hl : xs.length = L) (h : val xs = 1 * M ^ L % m) : Lifted a m L 0 xs := by
  refine ⟨hl, ?_⟩
  rw [h, Nat.mod_mod, pm_zero, Nat.mod_mul_mod]
theorem lifted_base {a m L : Nat} {xs : List Nat} (hl : xs.length = L) (h : val xs = a % m * M ^ L % m) : Lifted a m L 1 xs := by
  refine ⟨hl, ?_⟩
  rw [h, Nat.mod_mod, pm_one]

theorem odd_low {ms : List Nat} (ho : Ok ms) (hp : 0 < ms.length) (h : val ms % 2 = 1) : lat ms 0 % 2 = 1 := by
  rw [← val_low ho hp]
  unfold M
  omega
theorem odd_len {ms : List Nat} (h : val ms % 2 = 1) : 0 < ms.length := by
  rcases Nat.eq_zero_or_pos ms.length with h0 | h0
  · rw [List.eq_nil_of_length_eq_zero h0] at h
    simp [val] at h
  · exact h0

set_option maxRecDepth 100000 in
set_option maxHeartbeats 8000000 in
theorem oddPower_any (va ve vm : Value) (az es ms : List Nat) (a : Nat) (w : World) (hLa : Lim w.heap.size w va az) (hLe : Lim w.heap.size w ve es) (hLm : Lim w.heap.size w vm ms)
    (hla : az.length ≤ 34359738368) (hle : es.length ≤ 34359738368) (hlm : ms.length ≤ 34359738368) (hodd : val ms % 2 = 1) (ha : val az = a % val ms) :
    Calls Try.prog 72 #[va, ve, vm] w (Gives (pm a (val es) (val ms)) w) := by
  have hl1 := limbs_len_val hLm.ok
  have hod := ok_limbs (val ms)
  have hvl := val_limbs (val ms)
  obtain ⟨A, ca, rfl, _⟩ := id hLa
  obtain ⟨B, cb, rfl, _⟩ := id hLe
  obtain ⟨C, cc, rfl, _⟩ := id hLm
  go_enter Try.func72, Try.ntmps72
  go_wp2_with fail
  refine (trim_any _ ms w hLm (by omega)).mono ?_
  rintro e W1 ⟨r1, rfl, L1, hB1⟩
  generalize limbs (val ms) = ls at *
  generalize val ms = m at *
  subst hvl
  have hp := odd_len hodd
  have hlow := odd_low hod hp hodd
  obtain ⟨b1, o1, c1, rfl, hc1, hb1, hcell⟩ := L1.at_ hp
  have hck := hcell 0 hp
  rw [Nat.add_zero] at hck
  clear hcell
  obtain ⟨l, hl⟩ : ∃ l, ls.length = l + 1 := ⟨ls.length - 1, by omega⟩
  have hlt := ok_get hod 0
  rw [hl]
  rw [hl] at L1
  go_wp2_with fail
  refine (inverseOf_any (lat ls 0) W1 hlt hlow).mono ?_
  rintro e W2 ⟨i, rfl, hi, hinv, rfl⟩
  have hB1w := hB1.size
  go_upto_region 4 with fail
  have hx0 : ((W2.alloc (.cells #[.slice (some ⟨b1, o1, none⟩) (l + 1) c1, .int .u64 (i : Int)] 72)).alloc (.cells #[.int .u64 1] 32)).cell? ⟨W2.heap.size, 0, none⟩ = some (.slice (some ⟨b1, o1, none⟩) (l + 1) c1) := by simp
  have hx1 : ((W2.alloc (.cells #[.slice (some ⟨b1, o1, none⟩) (l + 1) c1, .int .u64 (i : Int)] 72)).alloc (.cells #[.int .u64 1] 32)).cell? ⟨W2.heap.size, 1, none⟩ = some (.int .u64 (i : Int)) := by simp
  have L1' := (L1.alloc (.cells #[.slice (some ⟨b1, o1, none⟩) (l + 1) c1, .int .u64 (i : Int)] 72)).alloc (.cells #[.int .u64 1] 32)
  have La' := ((hLa.next hB1).alloc (.cells #[.slice (some ⟨b1, o1, none⟩) (l + 1) c1, .int .u64 (i : Int)] 72)).alloc (.cells #[.int .u64 1] 32)
  have Le' := ((hLe.next hB1).alloc (.cells #[.slice (some ⟨b1, o1, none⟩) (l + 1) c1, .int .u64 (i : Int)] 72)).alloc (.cells #[.int .u64 1] 32)
  have Lo' := lim_lit1' W2 (.cells #[.slice (some ⟨b1, o1, none⟩) (l + 1) c1, .int .u64 (i : Int)] 72) 1 (small_ok (by omega))
  have hB3 : Below w.heap.size w ((W2.alloc (.cells #[.slice (some ⟨b1, o1, none⟩) (l + 1) c1, .int .u64 (i : Int)] 72)).alloc (.cells #[.int .u64 1] 32)) := (hB1.alloc hB1.size _).alloc (by simp only [World.size_alloc]; omega) _
  have hG3 : W2.heap.size < ((W2.alloc (.cells #[.slice (some ⟨b1, o1, none⟩) (l + 1) c1, .int .u64 (i : Int)] 72)).alloc (.cells #[.int .u64 1] 32)).heap.size := by simp only [World.size_alloc]; omega
  clear hLa hLe hLm hB1 L1
  generalize (W2.alloc (.cells #[.slice (some ⟨b1, o1, none⟩) (l + 1) c1, .int .u64 (i : Int)] 72)).alloc (.cells #[.int .u64 1] 32) = W3 at *
  generalize W2.heap.size = G at *
  have hm0 : val ls ≠ 0 := fun h => by rw [h] at hodd; omega
  have hS0 : W3.drew.cell? ⟨G, 0, none⟩ = some (.slice (some ⟨b1, o1, none⟩) (l + 1) c1) := hx0
  have hS1 : W3.drew.cell? ⟨G, 1, none⟩ = some (.int .u64 (i : Int)) := hx1
  have hBd : Below W3.heap.size W3 W3.drew := (Below.refl _ _).drew
  go_cut [10] (fun s10 wx => ∃ ps, Lim wx.heap.size wx s10 ps ∧ Lifted a (val ls) (l + 1) (val es) ps ∧ Below W3.heap.size W3 wx)
  case first =>
    have K1 : ∀ W, Below W3.heap.size W3 W → Calls Try.prog 81 #[.agg #[.slice (some ⟨b1, o1, none⟩) (l + 1) c1, .int .u64 (i : Int)], .slice (some ⟨G + 1, 0, none⟩) 1 1] W (Fills (l + 1) (1 * M ^ (l + 1) % val ls) W) := by
      intro W hW
      have h := lift_any _ _ ls [1] i W (by rw [hl] at *; exact L1'.next hW) (Lo'.next hW) (by omega) (by simp) hm0
      rw [hl, show val [1] = 1 from rfl] at h
      exact h
    have K2 : ∀ W, Below W3.heap.size W3 W → Calls Try.prog 81 #[.agg #[.slice (some ⟨b1, o1, none⟩) (l + 1) c1, .int .u64 (i : Int)], .slice A az.length ca] W (Fills (l + 1) (a % val ls * M ^ (l + 1) % val ls) W) := by
      intro W hW
      have h := lift_any _ _ ls az i W (L1'.next hW) (La'.next hW) (by omega) (by omega) hm0
      rw [hl, ha] at h
      exact h
    have HT : ∀ (w : World), Below W3.heap.size W3 w → ∀ (W : World) (x y : Value) (xs ys : List Nat) (k j : Nat), Below w.heap.size w W → Lim W.heap.size W x xs → Lim W.heap.size W y ys → Lifted a (val ls) (l + 1) k xs → Lifted a (val ls) (l + 1) j ys → Calls Try.prog 82 #[.agg #[.slice (some ⟨b1, o1, none⟩) (l + 1) c1, .int .u64 (i : Int)], x, y] W (Has (Lifted a (val ls) (l + 1) (k + j)) W) := by
      intro w hw W x y xs ys k j hW hx hy sx sy
      refine (times_any _ x y ls xs ys i l W ((L1'.next hw).next hW) hx hy hl sx.1 sy.1 (by omega) hi hinv).mono ?_
      rintro e W' ⟨r, rs, rfl, Lr, hlr, hvr, hBr⟩
      exact ⟨r, rs, rfl, Lr, ⟨hlr, mont_up hodd sx.2 sy.2 hvr⟩, hBr⟩
    have HK1 := Lib.hid K1
    have HK2 := Lib.hid K2
    have HHT := Lib.hid HT
    clear K1 K2 HT
    have hle5 : es.length ≤ 137438953472 := by omega
    go_region_held3 (fun w' => w'.cell? ⟨G, 0, none⟩ = some (.slice (some ⟨b1, o1, none⟩) (l + 1) c1) ∧ w'.cell? ⟨G, 1, none⟩ = some (.int .u64 (i : Int))) (first | exact ⟨hx0, hx1⟩ | exact ⟨hy0, hy1⟩ | exact ⟨hz0, hz1⟩ | exact ⟨hu0, hu1⟩)
      (first
        | (go_at_call_of 81 (Value.slice A az.length ca); (with_reducible refine (HK2.out W4 hB4).mono ?_); rintro e W5 ⟨rb, rsb, rfl, Lb5, hlb, hvb, hB45⟩; have hB5 := hB4.trans (hB45.mono hB4.size); have hz0 := (hB5.cell (p := ⟨G, 0, none⟩) hG3).trans hx0; have hz1 := (hB5.cell (p := ⟨G, 1, none⟩) hG3).trans hx1; have Lo5 := Lo4.next hB45)
        | (go_at_call_of 81 (Value.slice A az.length ca); (with_reducible refine (HK2.out W3.drew hBd).mono ?_); rintro e W4 ⟨rb, rsb, rfl, Lb4, hlb, hvb, hBb⟩; have hB4 := hBd.trans hBb; have hy0 := (hB4.cell (p := ⟨G, 0, none⟩) hG3).trans hx0; have hy1 := (hB4.cell (p := ⟨G, 1, none⟩) hG3).trans hx1)
        | (go_at_call 81; (with_reducible refine (HK1.out W4 hB4).mono ?_); rintro e W5 ⟨ro, rso, rfl, Lo5, hlo, hvo, hB45⟩; have hB5 := hB4.trans (hB45.mono hB4.size); have hz0 := (hB5.cell (p := ⟨G, 0, none⟩) hG3).trans hx0; have hz1 := (hB5.cell (p := ⟨G, 1, none⟩) hG3).trans hx1; have Lb5 := Lb4.next hB45)
        | (go_at_call 81; (with_reducible refine (HK1.out W3.drew hBd).mono ?_); rintro e W4 ⟨ro, rso, rfl, Lo4, hlo, hvo, hBo⟩; have hB4 := hBd.trans hBo; have hy0 := (hB4.cell (p := ⟨G, 0, none⟩) hG3).trans hx0; have hy1 := (hB4.cell (p := ⟨G, 1, none⟩) hG3).trans hx1)
        | (go_at_call 73; (with_reducible refine (raise_times (Lifted a (val ls) (l + 1)) _ ro rb _ rso rsb es W5 Lo5 Lb5 (Le'.next hB5) hle5 (lifted_one hlo hvo) (lifted_base hlb hvb) (HHT.out W5 hB5)).mono ?_); rintro e W6 ⟨rp, rsp, rfl, Lp, Sp, hB56⟩; have hB6 := hB5.trans (hB56.mono hB5.size); have hu0 := (hB6.cell (p := ⟨G, 0, none⟩) hG3).trans hx0; have hu1 := (hB6.cell (p := ⟨G, 1, none⟩) hG3).trans hx1))
    all_goals (go_wp2_with fail; go_meet; exact ⟨rsp, Lp, Sp, hB6⟩)
  case rest =>
    obtain ⟨ps, Lp, ⟨hlp, hvp⟩, hBp⟩ := hcut
    obtain ⟨P, cp, rfl, _⟩ := id Lp
    rw [hlp] at Lp
    rw [hlp]
    have hx2 := (hBp.cell (p := ⟨G, 0, none⟩) hG3).trans hx0
    have hx3 := (hBp.cell (p := ⟨G, 1, none⟩) hG3).trans hx1
    have hGp : G < wc.heap.size := Nat.lt_of_lt_of_le hG3 hBp.size
    have Lo2 := Lo'.next hBp
    have L2 := L1'.next hBp
    have hB7 := hB3.trans (hBp.mono hB3.size)
    clear Lo' L1' La' Le' hx0 hx1 hS0 hS1 hBd hBp hB3 hG3
    have hS2 : wc.drew.cell? ⟨G, 0, none⟩ = some (.slice (some ⟨b1, o1, none⟩) (l + 1) c1) := hx2
    have hS3 : wc.drew.cell? ⟨G, 1, none⟩ = some (.int .u64 (i : Int)) := hx3
    have hBd : Below wc.heap.size wc wc.drew := (Below.refl _ _).drew
    have K1 : Calls Try.prog 83 #[.agg #[.slice (some ⟨b1, o1, none⟩) (l + 1) c1, .int .u64 (i : Int)], .slice (some ⟨G + 1, 0, none⟩) 1 1] wc.drew (Fills (l + 1) 1 wc.drew) := by
      have h := fill_any _ _ ls [1] i wc.drew (L2.next hBd) (Lo2.next hBd) (by omega) (by simp; omega)
      rw [hl, show val [1] = 1 from rfl] at h
      exact h
    have K2 : ∀ (W : World) (y : Value) (ys : List Nat), Below wc.heap.size wc W → Lim W.heap.size W y ys → ys.length = l + 1 → val ys = 1 → Calls Try.prog 82 #[.agg #[.slice (some ⟨b1, o1, none⟩) (l + 1) c1, .int .u64 (i : Int)], .slice P (l + 1) cp, y] W (Monts (l + 1) (val ps * 1) (val ls) W) := by
      intro W y ys hW hy hly hvy
      have h := times_any _ _ y ls ps ys i l W (L2.next hW) (Lp.next hW) hy hl hlp hly (by omega) hi hinv
      rw [hvy] at h
      exact h
    have K3 : ∀ (W : World) (r : Value) (rs : List Nat), Below wc.heap.size wc W → Lim W.heap.size W r rs → rs.length = l + 1 → val rs * M ^ (l + 1) % val ls = val ps * 1 % val ls → Calls Try.prog 34 #[r, .slice (some ⟨b1, o1, none⟩) (l + 1) c1] W (GivesOk (pm a (val es) (val ls)) W) := by
      intro W r rs hW hr hlr hvr
      have h := rest_any r _ rs ls W hr (L2.next hW) (by omega) (by omega) hm0
      rw [mont_down hodd hvp hvr] at h
      exact h
    have HK1 := Lib.hid K1
    have HK2 := Lib.hid K2
    have HK3 := Lib.hid K3
    clear K1 K2 K3
    go_upto_region 5 with fail
    go_region_held3 (fun w' => w'.cell? ⟨G, 0, none⟩ = some (.slice (some ⟨b1, o1, none⟩) (l + 1) c1) ∧ w'.cell? ⟨G, 1, none⟩ = some (.int .u64 (i : Int))) (first | exact ⟨hx2, hx3⟩ | exact ⟨hy0, hy1⟩ | exact ⟨hz0, hz1⟩ | exact ⟨hu0, hu1⟩)
      (first
        | (go_at_call 83; (with_reducible refine HK1.out.mono ?_); rintro e W4 ⟨ro, rso, rfl, Lo4, hlo, hvo, hBo⟩; have hB4 := hBd.trans hBo; have hy0 := (hB4.cell (p := ⟨G, 0, none⟩) hGp).trans hx2; have hy1 := (hB4.cell (p := ⟨G, 1, none⟩) hGp).trans hx3)
        | (go_at_call 82; (with_reducible refine (HK2.out W4 ro rso hB4 Lo4 hlo hvo).mono ?_); rintro e W5 ⟨rt, rst, rfl, Lt, hlt5, hvt, hB45⟩; have hB5 := hB4.trans (hB45.mono hB4.size); have hz0 := (hB5.cell (p := ⟨G, 0, none⟩) hGp).trans hx2; have hz1 := (hB5.cell (p := ⟨G, 1, none⟩) hGp).trans hx3)
        | (go_at_call 34; (with_reducible refine (HK3.out W5 rt rst hB5 Lt hlt5 hvt).mono ?_); rintro e W6 ⟨rr, rfl, Lr, hB56⟩; have hB6 := hB5.trans (hB56.mono hB5.size); have hu0 := (hB6.cell (p := ⟨G, 0, none⟩) hGp).trans hx2; have hu1 := (hB6.cell (p := ⟨G, 1, none⟩) hGp).trans hx3))
    all_goals
      go_wp2
      go_ret
      exact ⟨rr, rfl, Lr, hB7.trans (hB6.mono hB7.size)⟩

end Go.Proofs.Ytilbkfgbbajelaa
