/- Of the great group no power of 2 from 2 to below the order is 1, for the order is prime; so lodgelaw06.SecretAgrees answers true, whatever comes in, and leaves memory below as it was. No condition. -/
import Derived.Test.YtilbkfgbbajelaaAgreesW
import Derived.Test.YtilbkfgbbajelaaNumC
namespace Go.Proofs.Ytilbkfgbbajelaa
open Go.RowKit Go.Shelf Num
set_option linter.unusedVariables false

theorem great_half : val greatL / 2 = 1205156213460516294276038011098783037428475274251229971327058470979054415841306114445046929130670807336613570738952006098251824478525291315971365353402504611531367372670536703348123007294680829887020513584624726600189364717085162921889329599071881596888429934762044470097788673059921772650773521873603874984881875042154463169647779984441228936206496905064565147296499973963182632029642323604865192473605840717232357219244260470063729922144429668263448160459816959 := by decide +kernel
theorem great_prime : Eds.IsP (val greatL / 2) := by rw [great_half]; exact Eds.p0
set_option exponentiation.threshold 5000 in
theorem great_lt : val greatL / 2 < 2 ^ 1536 := by decide +kernel
theorem great_pg : pg 2 (val greatL) 1536 (val greatL / 2) = 1 := by decide +kernel
theorem great_two : 2 ^ (val greatL / 2) % val greatL = 1 := by rw [← pg_is 2 (val greatL) 1536 (val greatL / 2) great_lt]; exact great_pg
theorem greatOne : GreatOne := by
  unfold GreatOne
  rw [P_5]
  intro s h2 hs h1
  rw [pm_is] at h1
  have hb := great_big
  have k := one_gcd (g := 2) (p := val greatL) (by omega) s (val greatL / 2) h1 great_two
  rcases great_prime.2 (Nat.gcd s (val greatL / 2)) (Nat.gcd_dvd_right _ _) with e | e
  · rw [e, Nat.pow_one, Nat.mod_eq_of_lt (by omega)] at k
    omega
  · have := Nat.le_of_dvd (by omega) (Nat.gcd_dvd_left s (val greatL / 2))
    omega
theorem secretAgrees_walk (g : Int) (s t : ByteArray) (w : World) (hg : (Lit.int .i64 g).wf = true) (hs : s.size ≤ maxLen) (ht : t.size ≤ maxLen) : Calls Try.prog 4 #[.int .i64 g, .string s, .string t] w fun e w' => e = .returned (.bool true) ∧ Below w.heap.size w w' := secretAgrees_if greatOne g s t w hg hs ht

end Go.Proofs.Ytilbkfgbbajelaa
