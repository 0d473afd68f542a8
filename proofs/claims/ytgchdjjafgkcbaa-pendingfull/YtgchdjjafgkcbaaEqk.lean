/- Keys alike. -/
import Derived.Test.YtgchdjjafgkcbaaPs
namespace Go.Proofs.Ytgchdjjafgkcbaa.Eqk
set_option linter.unusedVariables false
set_option linter.unusedSimpArgs false
open Go.RowKit Pb
attribute [local go_sem] Oper.semAt_some
def keq (a b : Int) (p q s : ByteArray) (a' b' : Int) (p' q' s' : ByteArray) : Bool := a == a' && (b == b' && (p.toList == p'.toList && (q.toList == q'.toList && s.toList == s'.toList)))
set_option maxRecDepth 100000 in
theorem equal_key (w : World) (a b : Int) (p q s : ByteArray) (a' b' : Int) (p' q' s' : ByteArray) : (Op.equalIn 10000 tK (.agg #[.int .i64 a, .int .i64 b, .string p, .string q, .string s]) (.agg #[.int .i64 a', .int .i64 b', .string p', .string q', .string s'])).run Try.prog w = .ok (keq a b p q s a' b' p' q' s') w := by
  unfold keq
  cases h0 : (a == a')
  · go_simp
  cases h1 : (b == b')
  · go_simp
  cases h2 : (p.toList == p'.toList)
  · go_simp
  cases h3 : (q.toList == q'.toList)
  · go_simp
  cases h4 : (s.toList == s'.toList)
  · go_simp
  · go_simp
theorem wpList_eql_key {ops : Array Oper} {rest : List Oper} {o : Oper} {a : Act} {w : World} {Q : Exit → Act → World → Prop} (hgd : o.guard = none) (x y : Operand) (t2 : TypeId) (ho : o.op = .binOp .eql tK x y t2) (xs ys : Array Value) (hx : a.eval x = .agg xs) (hy : a.eval y = .agg ys) (B : Bool) (hB : (Op.equalIn 10000 tK (.agg xs) (.agg ys)).run Try.prog w = .ok B w)
    (h : wpList Try.prog ops Q rest (a.put o.dst (.bool B)) w) : wpList Try.prog ops Q (o :: rest) a w := by
  refine wpList_plain hgd fun _ hK => ?_
  have hm : Try.prog.eqGuardType Try.prog.depth tK = false := by kernel_rfl
  unfold Oper.wp execOp
  simp [ho, hx, hy, run_eqGuard_agg, hm, run_eql_struct, hB, Result.andThen]
  exact hK _ _ h
theorem bytes_ext {p q : ByteArray} (h : p.toList = q.toList) : p = q := by
  rw [ByteArray.toList_eq, ByteArray.toList_eq] at h
  obtain ⟨⟨x⟩⟩ := p
  obtain ⟨⟨y⟩⟩ := q
  have : x = y := h
  rw [this]
theorem keq_iff {a b : Int} {p q s : ByteArray} {a' b' : Int} {p' q' s' : ByteArray} : keq a b p q s a' b' p' q' s' = true ↔ a = a' ∧ b = b' ∧ p = p' ∧ q = q' ∧ s = s' := by
  unfold keq
  simp only [Bool.and_eq_true, beq_iff_eq]
  constructor
  · rintro ⟨h1, h2, h3, h4, h5⟩; exact ⟨h1, h2, bytes_ext h3, bytes_ext h4, bytes_ext h5⟩
  · rintro ⟨rfl, rfl, rfl, rfl, rfl⟩; exact ⟨rfl, rfl, rfl, rfl, rfl⟩
theorem key_inj {r r' : Pa.Rq} (h : Pa.Ro r) (h' : Pa.Ro r') : kl r = kl r' ↔ r.link = r'.link ∧ r.cls = r'.cls ∧ r.num = r'.num ∧ r.stp = r'.stp ∧ r.trm = r'.trm := by
  constructor
  · intro e
    have := klawK.inj (kl_of h) (e ▸ kl_of h')
    unfold kv keyV at this
    simpa using this
  · rintro ⟨h1, h2, h3, h4, h5⟩
    unfold kl
    rw [h1, h2, h3, h4, h5]
theorem nm_inj {r r' : Pa.Rq} (h : Pa.Ro r) (h' : Pa.Ro r') : nl r = nl r' ↔ r.to_ = r'.to_ ∧ r.no = r'.no := name_inj h.to_ h.no h'.to_ h'.no
end Go.Proofs.Ytgchdjjafgkcbaa.Eqk
