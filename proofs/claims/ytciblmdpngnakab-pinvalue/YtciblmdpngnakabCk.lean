/- Check; known. -/
import Derived.Test.YtciblmdpngnakabKn
namespace Go.Proofs.Ytciblmdpngnakab.Ck
set_option linter.unusedVariables false
open Go.RowKit Pla Cb Tk Wd Nw Bk Aw Eb Et Kn
open Lib0 (bs bs_length bs_append owns_len run_str own_ge)
def z64 : List Bool := List.replicate 64 false
theorem z64_val : ((val z64 : Nat) : Int) = 0 := by have : val z64 = 0 := by kernel_rfl
                                                    rw [this]; rfl
/-- 'string(b[:3])' -/
theorem run_three {P : Program} {w : World} {src dst e : TypeId} {B : Nat} {v : Value} {l : List UInt8} (hs : P.underlying src = some (.slice e)) (he : P.underlying e = some (.int .u8)) (hd : P.underlying dst = some .string)
    (h : w.ownsRow B e 1 v 8 (bs l)) : ∃ g cap, v = .slice (some ⟨g, 0, none⟩) 8 cap ∧ 8 ≤ cap ∧ (convert src dst (.slice (some ⟨g, 0, none⟩) 3 cap)).run P w = .ok (.string ⟨(l.take 3).toArray⟩) w := by
  rcases h.2 with ⟨rfl, h0⟩ | ⟨g, cap, cur, rfl, hb, hg, hc, hc2, hsz, htk⟩
  · cases h0
  · refine ⟨g, cap, rfl, hc, ?_⟩
    have hown : w.ownsRow B e 1 (.slice (some ⟨g, 0, none⟩) 3 cap) 3 (bs (l.take 3)) := by
      have hl : l.length = 8 := by have := h.1; rw [bs_length] at this; omega
      refine ⟨by rw [bs_length, List.length_take, hl]; decide, .inr ⟨g, cap, cur, rfl, hb, hg, by omega, hc2, hsz, ?_⟩⟩
      have : cur.toList.take (3 * 1) = (cur.toList.take (8 * 1)).take 3 := by rw [List.take_take]; rfl
      rw [this, htk, bs, bs, List.map_take]
    exact run_str hs he hd hown
end Go.Proofs.Ytciblmdpngnakab.Ck
