/- The laws' helpers: pick, moment, order. -/
import Derived.Test.YtpocbaaogkabeaaDoorEx
namespace Go.Proofs.YtpocbaaogkabeaaDoor.Lw
set_option linter.unusedVariables false
set_option linter.unusedSimpArgs false
open Go.RowKit Kb Ca Ld De Oe Hx
/-- which of n things -/
def pk (c n : Int) : Int := (if c < 0 then -(c + 1) else c) % n
theorem pk_bd {c n : Int} (hn : 0 < n) : 0 ≤ pk c n ∧ pk c n < n := ⟨Int.emod_nonneg _ (by omega), Int.emod_lt_of_pos _ hn⟩
set_option maxRecDepth 100000 in
set_option maxHeartbeats 400000 in
theorem pick_any (c n : Int) (hc : (Lit.int .i64 c).wf = true) (hn : 0 < n) (hn2 : n ≤ 3155760000) (w : World) : Calls Tryd.prog 46 #[.int .i64 c, .int .i64 n] w fun e w' => e = .returned (.int .i64 (pk c n)) ∧ w' = w := by
  have hc' : -9223372036854775808 ≤ c ∧ c < 9223372036854775808 := by
    simp [Lit.wf, IntKind.min, IntKind.max, IntKind.signed, IntKind.bits] at hc; omega
  have hnz : n ≠ 0 := by omega
  have hnz2 : (n == 0) = false := by simp [hnz]
  unfold pk
  by_cases h : c < 0
  · have e1 : (-(c + 1)).tmod n = (-(c + 1)) % n := Int.tmod_eq_emod_of_nonneg (by omega)
    go_enter Tryd.func46, Tryd.ntmps46
    go_wp2
    go_ret
    exact ⟨Ld.ret_int (by simp [h, e1]), rfl⟩
  · have e1 : c.tmod n = c % n := Int.tmod_eq_emod_of_nonneg (by omega)
    go_enter Tryd.func46, Tryd.ntmps46
    go_wp2
    go_ret
    exact ⟨Ld.ret_int (by simp [h, e1]), rfl⟩
set_option maxRecDepth 100000 in
set_option maxHeartbeats 400000 in
theorem moment_any (c : Int) (hc : (Lit.int .i64 c).wf = true) (w : World) : Calls Tryd.prog 28 #[.int .i64 c] w fun e w' => e = .returned (.int .i64 (pk c 3155760000)) ∧ w' = w := by
  go_enter Tryd.func28, Tryd.ntmps28
  go_wp2_with fail
  refine (pick_any c 3155760000 hc (by omega) (by omega) _).mono ?_
  rintro e x ⟨rfl, rfl⟩
  go_wp2
  go_ret
  exact ⟨rfl, rfl⟩
end Go.Proofs.YtpocbaaogkabeaaDoor.Lw
