/- The law's maker of nodes, as a whole. -/
import Derived.Test.YtgidjfhlooggkabMl
namespace Go.Proofs.Ytgidjfhlooggkab.Md
set_option linter.unusedVariables false
set_option linter.unusedSimpArgs false
open Go.RowKit Kb Ga Gb Gc Gd Nt Mk Mv Gj Ag Ml
/-- what made nodes are like -/
structure PM (w : World) (v : Value) (ats : List AT) (w' : World) : Prop where
  own : Nt.Own w' w.heap.size v ats
  gd : good 1 (er ats)
  sml : sm (er ats)
  few : cnt (er ats) ≤ 60
  below : Below w.heap.size w w'
def PostM (w : World) (e : Ending) (w' : World) : Prop := ∃ v ats, e = .returned v ∧ PM w v ats w'
set_option maxRecDepth 100000 in
theorem made_any (w : World) (o : Option Addr) (n cap : Nat) (hr : Raw w w.heap.size o n) :
    Calls Try.prog 12 #[.slice o n cap] w (PostM w) := by
  have h0 : Mb (w.alloc (.cells #[.slice o n cap, .int .i64 0, .int .i64 0] 54)) w.heap.size (.slice o n cap) ((0 : Nat) : Int) ((0 : Nat) : Int) := h1_0 w _
  have B0 := below_one w (.cells #[.slice o n cap, .int .i64 0, .int .i64 0] 54)
  have h1 := Lm.of h0 (hr.grown (gr_below B0 _))
  have sW : (w.alloc (.cells #[.slice o n cap, .int .i64 0, .int .i64 0] 54)).heap.size = w.heap.size + 1 := by simp
  have cl := list_all 7 _ _ o n cap 0 0 1 h1 (by omega) (by omega) (by omega)
  clear h0 h1
  go_enter Try.func12, Try.ntmps12
  go_wp2_with fail
  refine cl.mono ?_
  clear cl
  generalize w.alloc (.cells #[.slice o n cap, .int .i64 0, .int .i64 0] 54) = x at *
  rintro _ y ⟨v, ats, rfl, hP⟩
  obtain ⟨ho, hg, hs, hf, a', -, -, hl⟩ := hP
  have HP : PM w v ats y := ⟨ho.base (by omega), hg, hs, by omega, ⟨hl.3.os.trans B0.os, hl.3.tape.trans B0.tape, hl.3.output.trans B0.output, Nat.le_trans B0.size hl.3.size, fun k hk => (hl.3.block k (by omega) (by intro e; injection e with e; omega)).trans (B0.block k hk)⟩⟩
  clear ho hg hs hf hl B0
  go_wp2_with fail
  go_ret
  exact ⟨v, ats, rfl, HP⟩
end Go.Proofs.Ytgidjfhlooggkab.Md
