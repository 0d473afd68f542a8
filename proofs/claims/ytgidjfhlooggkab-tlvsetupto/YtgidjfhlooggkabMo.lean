/- Plain: made nodes can be written. -/
import Derived.Test.YtgidjfhlooggkabIj
import Derived.Test.YtgidjfhlooggkabMd
namespace Go.Proofs.Ytgidjfhlooggkab.Mo
set_option linter.unusedVariables false
set_option linter.unusedSimpArgs false
open Go.RowKit Kb Ga Gb Gc Nt Wk Ls Wr Nb Bu Ag Ml Ij
theorem en_len : ∀ ts : List Tr, sm ts → (enT ts).length ≤ 146 * cnt ts
  | [], _ => by simp [enT, cnt]
  | .mk t v ks :: ts, h => by
    unfold sm at h
    have h1 := en_len ks h.1.2
    have h2 := en_len ts h.2
    have h3 := tgB_len t
    have h4 := lnB_len ((v.size + (enT ks).length : Nat) : Int)
    have h5 := h.1.1
    have sv : v.data.toList.length = v.size := by simp
    simp only [enT, cnt, List.length_append]
    rw [sv]
    omega
theorem made_ok {ats : List AT} (hg : good 1 (er ats)) (hs : sm (er ats)) (hc : cnt (er ats) ≤ 60) : bldE ats = 0 ∧ bldS ats = ⟨(enT (er ats)).toArray⟩ ∧ dep ats ≤ 999999 ∧ (enT (er ats)).length ≤ 9999 := by
  have h1 := (wr_good 1 0 ats hg (by omega)).1
  have h2 := en_len (er ats) hs
  have h3 : bldE ats = 0 := by
    unfold bldE
    rw [if_pos h1, lsz_en, if_neg (by omega)]
  refine ⟨h3, ?_, dep_good 1 ats hg, by omega⟩
  unfold bldS
  rw [if_pos h3, encS_en]
end Go.Proofs.Ytgidjfhlooggkab.Mo
