import Derived.Test.YtgchdjjafgkcbaaQf23
import Derived.Test.YtgchdjjafgkcbaaQf24
/- PendingTwice: what its statements leave. -/
namespace Go.Proofs.Ytgchdjjafgkcbaa.Ps
set_option linter.unusedVariables false
set_option linter.unusedSimpArgs false
open Go.RowKit Go.Maps Lib0 Kb Xp Za Ze Ih Fh Hh Pa Pb Pc Pe Pf Pg Px Pl Pm Pn Po Pq Pp Pr
theorem xor_ne {a : Int} (h : I64 a) : bits .xor .i64 a 1 ≠ a ∧ I64 (bits .xor .i64 a 1) := by
  have e : bits .xor .i64 a 1 = IntKind.i64.wrap ((BitVec.ofInt 64 a ^^^ BitVec.ofInt 64 1).toNat : Int) := rfl
  have hlt := (BitVec.ofInt 64 a ^^^ BitVec.ofInt 64 1).isLt
  rw [e, IntKind.wrap_i64]
  refine ⟨fun k => ?_, ?_, ?_⟩
  · have h1 : ((BitVec.ofInt 64 a).toNat : Int) = a % 18446744073709551616 := by
      rw [BitVec.toNat_ofInt]
      simp
      omega
    have h2 : (BitVec.ofInt 64 a ^^^ BitVec.ofInt 64 1).toNat = (BitVec.ofInt 64 a).toNat := by omega
    have h3 : BitVec.ofInt 64 a ^^^ BitVec.ofInt 64 1 = BitVec.ofInt 64 a := BitVec.eq_of_toNat_eq h2
    have h4 : (BitVec.ofInt 64 a ^^^ BitVec.ofInt 64 1) ^^^ BitVec.ofInt 64 a = 0#64 := by rw [h3]; simp
    have h5 : BitVec.ofInt 64 1 = 0#64 := by
      rw [← h4, BitVec.xor_comm (BitVec.ofInt 64 a), BitVec.xor_assoc, BitVec.xor_self, BitVec.xor_zero]
    exact absurd h5 (by decide)
  · omega
  · omega
theorem fo_nil : Fo [] := ⟨Nat.zero_le _, fun x hx => (by cases hx), fun x hx => (by cases hx)⟩
theorem em_small : (⟨#[]⟩ : ByteArray).size ≤ 1000000 := by decide
theorem ro_rk {lk cl : Int} {nu st tr : ByteArray} {to_ no : Int} (h1 : I64 lk) (h2 : I64 cl) (h3 : nu.size ≤ 281474976710656) (h4 : st.size ≤ 281474976710656) (h5 : tr.size ≤ 281474976710656) (h6 : I64 to_) (h7 : I64 no) : Ro (rk lk cl nu st tr to_ no) := ⟨h1, h2, h3, h4, h5, h6, h7, em_small, em_small, fo_nil, fo_nil⟩
theorem rm_rk (w : World) (lk cl : Int) (nu st tr : ByteArray) (to_ no : Int) : Rm w (rk lk cl nu st tr to_ no) (.slice none 0 0) (.slice none 0 0) := ⟨⟨em_small, rowf_nil w, fo_nil⟩, ⟨em_small, rowf_nil w, fo_nil⟩⟩
structure Wk (w y : World) (base b A B : Nat) (ka kb : Array Value) (C : Cf) (S : St) : Prop where
  tb : Tb y base b C S
  ka : y.heap[A]? = some (.cells ka tK (0, 0))
  kb : y.heap[B]? = some (.cells kb tK (0, 0))
  bel : Below w.heap.size w y
  bas : w.heap.size ≤ base
section
variable {w y x : World} {base b A B : Nat} {ka kb : Array Value} {C : Cf} {S S' : St}
theorem Wk.below (h : Wk w y base b A B ka kb C S) (k : Below y.heap.size y x) : Wk w x base b A B ka kb C S := ⟨h.tb.below k, kept k h.ka, kept k h.kb, keepB h.bel k, h.bas⟩
theorem Wk.step (h : Wk w y base b A B ka kb C S) (t : Tb x base b C S') (k : Kt y x) (bl : Below base y x) : Wk w x base b A B ka kb C S' :=
  ⟨t, (k.block _ _ _ _ h.ka (by decide) (by decide) (by decide) (by decide) (by decide)).trans h.ka, (k.block _ _ _ _ h.kb (by decide) (by decide) (by decide) (by decide) (by decide)).trans h.kb, h.bel.trans (bl.mono h.bas), h.bas⟩
theorem Tb.setK (h : Tb y base b C S) {g o : Nat} {c : Array Value} (hg : y.heap[g]? = some (.cells c tK (0, 0))) (v : Value) : Tb (y.setCell ⟨g, o, none⟩ v) base b C S := by
  have ne : ∀ k, k ≠ g → (y.setCell ⟨g, o, none⟩ v).heap[k]? = y.heap[k]? := fun k hk => setCell_ne (p := ⟨g, o, none⟩) (fun e : g = k => hk e.symm) v
  have kx : ∀ (k : Nat) (c2 : Array Value) (t : TypeId) (fr : Nat × Nat), y.heap[k]? = some (.cells c2 t fr) → t ≠ tK → (y.setCell ⟨g, o, none⟩ v).heap[k]? = y.heap[k]? := fun k c2 t fr hk ht => ne k (ty_ne hk hg ht)
  have hd : ∀ {k : Nat} {r : Rq} {t : Int} {l : Bool}, Hd y base k r t l → Hd (y.setCell ⟨g, o, none⟩ v) base k r t l := fun hd => by
    obtain ⟨h0, v1, v2, h1, h2, h3⟩ := hd
    refine ⟨h0, v1, v2, (kx _ _ _ _ h1 (by decide)).trans h1, own_keep h2 fun k hk => ?_, own_keep h3 fun k hk => ?_⟩
    · obtain ⟨c, hc⟩ := own_ty h2 hk
      exact kx _ _ _ _ hc (by decide)
    · obtain ⟨c, hc⟩ := own_ty h3 hk
      exact kx _ _ _ _ hc (by decide)
  obtain ⟨wb, rb, kb, hb, Bw, Br, ck, ch, Dk, Dh, h1, h2⟩ := h.mem
  have n1 := wl_kind h1.ww hg ⟨by decide, by decide, by decide⟩
  have n2 := wl_kind h1.wr hg ⟨by decide, by decide, by decide⟩
  exact ⟨⟨wb, rb, kb, hb, Bw, Br, ck, ch, Dk, Dh, ⟨(kx _ _ _ _ h1.blk (by decide)).trans h1.blk, h1.ww.keep (fun k hk => ne k (fun e => n1 (e ▸ hk))), h1.wr.keep (fun k hk => ne k (fun e => n2 (e ▸ hk))), map_keep h1.keys (ne _ (map_blk h1.keys hg).symm), map_keep h1.held (ne _ (map_blk h1.held hg).symm), h1.apart, h1.nk, h1.nh, h1.kh, h1.low, h1.loww, h1.lowr, by rw [setCell_size]; exact h1.base_⟩, h2⟩, fun x hx => hd (h.hw x hx), fun x hx => hd (h.hr x hx), h.iv⟩
theorem Wk.setB (h : Wk w y base b A B ka kb C S) (hB : w.heap.size ≤ B) (hne : A ≠ B) (o : Nat) (v : Value) {kb' : Array Value} (hk : kb.setIfInBounds o v = kb') : Wk w (y.setCell ⟨B, o, none⟩ v) base b A B ka kb' C S :=
  ⟨Tb.setK h.tb h.kb v, (setCell_ne (p := ⟨B, o, none⟩) (fun e : B = A => hne e.symm) v).trans h.ka, by rw [setCell_heap h.kb, hk], h.bel.setCell hB _, h.bas⟩
theorem kcells {g : Nat} {l c : Int} {n s t : ByteArray} (h : x.heap[g]? = some (.cells #[.int .i64 l, .int .i64 c, .string n, .string s, .string t] tK (0, 0))) : x.cell? ⟨g, 0, none⟩ = some (.int .i64 l) ∧ x.cell? ⟨g, 1, none⟩ = some (.int .i64 c) ∧ x.cell? ⟨g, 2, none⟩ = some (.string n) ∧ x.cell? ⟨g, 3, none⟩ = some (.string s) ∧ x.cell? ⟨g, 4, none⟩ = some (.string t) := by
  refine ⟨?_, ?_, ?_, ?_, ?_⟩ <;> simp [World.cell?, h]
theorem lst_form {lo : Nat} {v : Value} {qs : List Rq} (h : Lst x base lo v qs) : ∃ o c, v = .slice o qs.length c := by
  obtain ⟨ps, h1, h2, -⟩ := h.row
  obtain ⟨o, c, e, -⟩ := own_form h2
  refine ⟨o, c, ?_⟩
  rw [e, ← h1, List.length_map]
end
end Go.Proofs.Ytgchdjjafgkcbaa.Ps
/- Keys alike. -/
namespace Go.Proofs.Ytgchdjjafgkcbaa.Eqk
set_option linter.unusedVariables false
set_option linter.unusedSimpArgs false
open Go.RowKit Pb
attribute [local go_sem] Oper.semAt_some
def keq (a b : Int) (p q s : ByteArray) (a' b' : Int) (p' q' s' : ByteArray) : Bool := a == a' && (b == b' && (p.toList == p'.toList && (q.toList == q'.toList && s.toList == s'.toList)))
set_option maxRecDepth 100000 in
theorem equal_key (w : World) (a b : Int) (p q s : ByteArray) (a' b' : Int) (p' q' s' : ByteArray) : (Op.equalIn 10000 tK (.agg #[.int .i64 a, .int .i64 b, .string p, .string q, .string s]) (.agg #[.int .i64 a', .int .i64 b', .string p', .string q', .string s'])).run Try.prog w = .ok (keq a b p q s a' b' p' q' s') w := by
  unfold keq
  cases h0 : (a == a')
  · go_simp
  cases h1 : (b == b')
  · go_simp
  cases h2 : (p.toList == p'.toList)
  · go_simp
  cases h3 : (q.toList == q'.toList)
  · go_simp
  cases h4 : (s.toList == s'.toList)
  · go_simp
  · go_simp
theorem wpList_eql_key {ops : Array Oper} {rest : List Oper} {o : Oper} {a : Act} {w : World} {Q : Exit → Act → World → Prop} (hgd : o.guard = none) (x y : Operand) (t2 : TypeId) (ho : o.op = .binOp .eql tK x y t2) (xs ys : Array Value) (hx : a.eval x = .agg xs) (hy : a.eval y = .agg ys) (B : Bool) (hB : (Op.equalIn 10000 tK (.agg xs) (.agg ys)).run Try.prog w = .ok B w)
    (h : wpList Try.prog ops Q rest (a.put o.dst (.bool B)) w) : wpList Try.prog ops Q (o :: rest) a w := by
  refine wpList_plain hgd fun _ hK => ?_
  have hm : Try.prog.eqGuardType Try.prog.depth tK = false := by kernel_rfl
  unfold Oper.wp execOp
  simp [ho, hx, hy, run_eqGuard_agg, hm, run_eql_struct, hB, Result.andThen]
  exact hK _ _ h
theorem bytes_ext {p q : ByteArray} (h : p.toList = q.toList) : p = q := by
  rw [ByteArray.toList_eq, ByteArray.toList_eq] at h
  obtain ⟨⟨x⟩⟩ := p
  obtain ⟨⟨y⟩⟩ := q
  have : x = y := h
  rw [this]
theorem keq_iff {a b : Int} {p q s : ByteArray} {a' b' : Int} {p' q' s' : ByteArray} : keq a b p q s a' b' p' q' s' = true ↔ a = a' ∧ b = b' ∧ p = p' ∧ q = q' ∧ s = s' := by
  unfold keq
  simp only [Bool.and_eq_true, beq_iff_eq]
  constructor
  · rintro ⟨h1, h2, h3, h4, h5⟩; exact ⟨h1, h2, bytes_ext h3, bytes_ext h4, bytes_ext h5⟩
  · rintro ⟨rfl, rfl, rfl, rfl, rfl⟩; exact ⟨rfl, rfl, rfl, rfl, rfl⟩
theorem key_inj {r r' : Pa.Rq} (h : Pa.Ro r) (h' : Pa.Ro r') : kl r = kl r' ↔ r.link = r'.link ∧ r.cls = r'.cls ∧ r.num = r'.num ∧ r.stp = r'.stp ∧ r.trm = r'.trm := by
  constructor
  · intro e
    have := klawK.inj (kl_of h) (e ▸ kl_of h')
    unfold kv keyV at this
    simpa using this
  · rintro ⟨h1, h2, h3, h4, h5⟩
    unfold kl
    rw [h1, h2, h3, h4, h5]
theorem nm_inj {r r' : Pa.Rq} (h : Pa.Ro r) (h' : Pa.Ro r') : nl r = nl r' ↔ r.to_ = r'.to_ ∧ r.no = r'.no := name_inj h.to_ h.no h'.to_ h'.no
end Go.Proofs.Ytgchdjjafgkcbaa.Eqk
