/- modulus.Power answers what a power leaves, and true; nothing and false, of 0. Conditions: the slices read as limbs; lengths below 2^35. -/
import Derived.Test.YtilbkfgbbajelaaModP
namespace Go.Proofs.Ytilbkfgbbajelaa
open Go.RowKit Go.Shelf Num
set_option linter.unusedVariables false

theorem Lim.boxed {w : World} {v : Value} {xs : List Nat} (h : Lim w.heap.size w v xs) (o : Obj) : Lim (w.alloc o).heap.size (w.alloc o) v xs := h.alloc o

set_option maxRecDepth 100000 in
set_option maxHeartbeats 4000000 in
theorem power_zero (va ve vm : Value) (az es ms : List Nat) (w : World) (hLa : Lim w.heap.size w va az) (hLe : Lim w.heap.size w ve es) (hLm : Lim w.heap.size w vm ms)
    (hla : az.length ≤ 34359738368) (hle : es.length ≤ 34359738368) (hlm : ms.length ≤ 34359738368) (h0 : val ms = 0) :
    Calls Try.prog 57 #[va, ve, vm] w (GivesNo w) := by
  have K := rest_zero va vm az ms (w.alloc (.cells #[vm] 28)) (hLa.alloc _) (hLm.alloc _) (by omega) (by omega) h0
  have HK := Lib.hid K
  clear K
  obtain ⟨A, ca, rfl, _⟩ := id hLa
  obtain ⟨B, cb, rfl, _⟩ := id hLe
  obtain ⟨C, cc, rfl, _⟩ := id hLm
  go_enter Try.func57, Try.ntmps57
  go_wp2_with fail
  refine HK.out.mono ?_
  rintro e W1 ⟨rfl, hB⟩
  go_wp2
  go_ret2
  exact ⟨rfl, ((Below.refl _ w).alloc (Nat.le_refl _) _).trans (hB.mono (by simp))⟩

theorem limbs_one : limbs 1 = [1] := limbs_of 1 [1] rfl (by decide +kernel) (by decide +kernel)
theorem two_le {m : Nat} (h0 : m ≠ 0) (he : m % 2 = 0) : 2 ≤ m := by omega
theorem bit_zero (n : Nat) : bitN n 0 = n % 2 := by unfold bitN; rw [Nat.pow_zero, Nat.div_one]

set_option maxRecDepth 100000 in
set_option maxHeartbeats 4000000 in
theorem power_any (va ve vm : Value) (az es ms : List Nat) (w : World) (hLa : Lim w.heap.size w va az) (hLe : Lim w.heap.size w ve es) (hLm : Lim w.heap.size w vm ms)
    (hla : az.length ≤ 34359738368) (hle : es.length ≤ 34359738368) (hlm : ms.length ≤ 34359738368) (h0 : val ms ≠ 0) :
    Calls Try.prog 57 #[va, ve, vm] w (GivesOk (pm (val az) (val es) (val ms)) w) := by
  have K := rest_any va vm az ms (w.alloc (.cells #[vm] 28)) (hLa.alloc _) (hLm.alloc _) (by omega) (by omega) h0
  have HK := Lib.hid K
  clear K
  have hrl := rem_len (a := val az) hLm.ok h0
  have hom := hLm.ok
  have hbox : (w.alloc (.cells #[vm] 28)).cell? ⟨w.heap.size, 0, none⟩ = some vm := by simp
  obtain ⟨A, ca, rfl, _⟩ := id hLa
  obtain ⟨B, cb, rfl, _⟩ := id hLe
  obtain ⟨C, cc, rfl, _⟩ := id hLm
  go_enter Try.func57, Try.ntmps57
  go_wp2_with fail
  refine HK.out.mono ?_
  rintro e W1 ⟨rb, rfl, Lb, hB1⟩
  have hbox1 : W1.cell? ⟨w.heap.size, 0, none⟩ = some (.slice C ms.length cc) := (hB1.cell (p := ⟨w.heap.size, 0, none⟩) (by simp)).trans hbox
  have hBw : Below w.heap.size w W1 := ((Below.refl _ w).alloc (Nat.le_refl _) _).trans (hB1.mono (by simp))
  have Lm1 := hLm.next hBw
  have Le1 := hLe.next hBw
  have hG1 := lt_of_cell hbox1
  clear hbox hB1 HK hLa
  have K2 := bit_any W1.heap.size _ ms 0 W1 Lm1 (by omega)
  rw [bit_zero] at K2
  rcases (show val ms % 2 = 1 ∨ val ms % 2 = 0 by omega) with hodd | heven
  · rw [hodd] at K2
    have K3 := oddPower_any rb _ _ _ es ms (val az) W1 Lb Le1 Lm1 (by omega) hle hlm hodd (val_limbs _)
    have HK2 := Lib.hid K2
    have HK3 := Lib.hid K3
    clear K2 K3
    obtain ⟨R, cr, rfl, _⟩ := id Lb
    go_wp2_with fail
    refine HK2.out.mono ?_
    rintro e W2 ⟨rfl, rfl⟩
    go_wp2_with fail
    refine HK3.out.mono ?_
    rintro e W3 ⟨r3, rfl, L3, hB3⟩
    go_wp2
    go_ret2
    exact ⟨r3, rfl, L3, hBw.trans (hB3.mono hBw.size)⟩
  · rw [heven] at K2
    have HK2 := Lib.hid K2
    clear K2
    have hm2 : 2 ≤ val ms := two_le h0 heven
    have hB2 : Below w.heap.size w (W1.alloc (.cells #[.int .u64 1] 32)) := hBw.alloc hBw.size _
    have Lo := lim_lit1 W1 1 (small_ok (by omega))
    have Lb2 := Lb.alloc (.cells #[.int .u64 1] 32)
    have Le2 := Le1.alloc (.cells #[.int .u64 1] 32)
    have Lm2 := Lm1.alloc (.cells #[.int .u64 1] 32)
    have hbox2 : (W1.alloc (.cells #[.int .u64 1] 32)).cell? ⟨w.heap.size, 0, none⟩ = some (.slice C ms.length cc) := by
      rw [((Below.refl W1.heap.size W1).alloc (Nat.le_refl _) _).cell (p := ⟨w.heap.size, 0, none⟩) hG1]
      exact hbox1
    have hG2 : w.heap.size < (W1.alloc (.cells #[.int .u64 1] 32)).heap.size := by simp only [World.size_alloc]; omega
    have hlen : ∀ k, (limbs (pm (val az) k (val ms))).length ≤ ms.length := fun k => limbs_len (Nat.lt_trans (pm_lt _ _ (by omega)) (val_lt hom))
    have K3 := raise_closure (fun k xs => xs = limbs (pm (val az) k (val ms))) w.heap.size _ rb _ [1] _ es (W1.alloc (.cells #[.int .u64 1] 32)) Lo Lb2 Le2 (by omega)
      (by show [1] = _; rw [pm_zero, Nat.mod_eq_of_lt (by omega), limbs_one]) (by show _ = _; rw [pm_one])
      (by
        rintro W x y xs ys k l hW hx hy rfl rfl
        have hbx := (hW.cell (p := ⟨w.heap.size, 0, none⟩) hG2).trans hbox2
        have h := closure_any w.heap.size _ x y ms _ _ W hbx (Lm2.next hW) hx hy (by omega) (by have := hlen k; omega) (by have := hlen l; omega) h0
        rw [val_limbs, val_limbs, ← pm_add] at h
        refine h.mono ?_
        rintro e W' ⟨r, rfl, Lr, hBr⟩
        exact ⟨r, _, rfl, Lr, rfl, hBr⟩)
    have HK3 := Lib.hid K3
    clear K3
    obtain ⟨R, cr, rfl, _⟩ := id Lb
    have hmf : ∀ (fn : Fn) (first cap : Array Value) (w : World), (Instr.makeFunc fn first cap).run Try.prog w = .ok (.func fn first cap) w := fun _ _ _ _ => rfl
    go_wp2_with fail
    refine HK2.out.mono ?_
    rintro e W2 ⟨rfl, rfl⟩
    go_wp2_with fail
    refine HK3.out.mono ?_
    rintro e W3 ⟨r3, rs3, rfl, L3, rfl, hB3⟩
    go_wp2
    go_ret2
    exact ⟨r3, rfl, L3, hB2.trans (hB3.mono hB2.size)⟩

end Go.Proofs.Ytilbkfgbbajelaa
