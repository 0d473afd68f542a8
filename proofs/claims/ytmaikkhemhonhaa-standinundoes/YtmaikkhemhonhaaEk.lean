/- StandinHolds: the walk. -/
import Derived.Test.YtmaikkhemhonhaaEj
import Derived.Test.YtmaikkhemhonhaaOl
namespace Go.Proofs.Ytmaikkhemhonhaa.Ek
set_option linter.unusedVariables false
set_option linter.unusedSimpArgs false
open Go.RowKit Go.Maps Lib0 Kb Xp Da Db Dc Dd De Df Dh Di Dj Dk Dl Dm Dn Dp Dq Dr Ds Dt Du Dv Dw Dy Dz Ea Eb Ec Ed Ee Ef Eg Eh Ei Ej
attribute [local go_sem] Oper.semAt_some
abbrev tGv : TypeId := 51
def gvc (G : List Ga) : List Value := G.flatMap fun g => [.string g.1, .int .i64 g.2.2.1, .int .i64 g.2.2.2]
theorem gvc_append (G M : List Ga) : gvc (G ++ M) = gvc G ++ gvc M := by simp [gvc]
theorem gvc_at : ∀ (G : List Ga) (i : Nat) (h : i < G.length), (gvc G)[i * 3]? = some (.string G[i].1) ∧ (gvc G)[i * 3 + 1]? = some (.int .i64 G[i].2.2.1) ∧ (gvc G)[i * 3 + 2]? = some (.int .i64 G[i].2.2.2)
  | g :: G, 0, _ => by simp [gvc]
  | g :: G, i + 1, h => by
    have := gvc_at G i (by simpa using h)
    have e : gvc (g :: G) = .string g.1 :: .int .i64 g.2.2.1 :: .int .i64 g.2.2.2 :: gvc G := by simp [gvc]
    rw [e, show (i + 1) * 3 = i * 3 + 1 + 1 + 1 by omega]
    simpa [List.getElem?_cons_succ, Nat.add_assoc] using this
theorem infoGv : ∃ i, Try.prog.info? tGv = some i ∧ i.zero = some (.agg #[.string ⟨#[]⟩, .int .i64 0, .int .i64 0]) ∧ i.size = 3 ∧ i.bytes = 32 := by
  have h : (Try.prog.info? tGv).map (fun i => (i.zero, i.size, i.bytes)) = some (some (.agg #[.string ⟨#[]⟩, .int .i64 0, .int .i64 0]), 3, 32) := by kernel_rfl
  cases e : Try.prog.info? tGv with
  | none => rw [e] at h; cases h
  | some i => rw [e] at h; simp at h; exact ⟨i, rfl, h.1, h.2.1, h.2.2⟩
structure HS (w w1 : World) (b lb : Nat) (l : Lm) (S : St) (m : Nat) (av : Value) (y : World) : Prop where
  kn : KN w1 b lb l S m y
  row : y.ownsRow w1.heap.size tGv 3 av S.G.length (gvc S.G)
  lim : Lim S l
  crd : ∀ g ∈ S.G, ∃ k, k < 7 ∧ g.1 = crd ((k : Nat) : Int)
  gv : S.gv = (S.G.length : Int)
  most : S.most = 10
  bel : Below w.heap.size w y
section
variable {w w1 y z : World} {b lb : Nat} {l : Lm} {S : St} {m : Nat} {av : Value}
theorem HS.below (h : HS w w1 b lb l S m av y) (k : Below y.heap.size y z) : HS w w1 b lb l S m av z := ⟨h.kn.below k, own_keep h.row fun g hg => k.block g (h.row.lt g hg).2, h.lim, h.crd, h.gv, h.most, keepB h.bel k⟩
theorem HS.few (h : HS w w1 b lb l S m av y) : m ≤ 7 := bk_few h.kn.bk h.crd
theorem HS.used (h : HS w w1 b lb l S m av y) (hl : isR l = true) (c : ByteArray) (hc : c.size ≤ 1000000) (now : Int) (hn : 0 ≤ now ∧ now ≤ 9223372036854775807) : Calls Try.prog 14 #[.pointer (some ⟨b, 0, none⟩), lmv l, .string c, .int .i64 now] y fun e z => e = .returned (.tuple #[.int .i64 (cnt S.G c (now - l.window + 1)), .int .i64 (smm S.G c (now - l.window + 1))]) ∧ HS w w1 b lb l S m av z := by
  refine (used_ok h.kn.bk l hl c hc now hn).mono ?_
  rintro e z ⟨rfl, hz⟩
  exact ⟨rfl, h.below hz⟩
theorem HS.no (h : HS w w1 b lb l S m av y) (hl : isR l = true) (c : ByteArray) (hc : c.size ≤ 1000000) (hce : c.toList.isEmpty = false) (u now : Int) (hu : isA u = true) (hn : S.now ≤ now) (hn1 : now ≤ 9223372036854775807) (hb : bey S.G l c u now = true) : Calls Try.prog 15 #[.pointer (some ⟨b, 0, none⟩), lmv l, .string c, .int .i64 u, .int .i64 now] y fun e z => e = .returned (.int .i64 210) ∧ HS w w1 b lb l S m av z := by
  refine (ask_no h.kn.bk l hl c hc hce u now hu hn1 210 (.inr ⟨hn, hb, rfl⟩)).mono ?_
  rintro e z ⟨rfl, hz⟩
  exact ⟨rfl, h.below hz⟩
/-- behind an approval that the law's own list does not have yet -/
structure HN (w w1 : World) (b lb : Nat) (l : Lm) (S S' : St) (m : Nat) (av : Value) (y : World) : Prop where
  kn : KN w1 b lb l S' m y
  row : y.ownsRow w1.heap.size tGv 3 av S.G.length (gvc S.G)
  bel : Below w.heap.size w y
theorem HN.below {S' : St} (h : HN w w1 b lb l S S' m av y) (k : Below y.heap.size y z) : HN w w1 b lb l S S' m av z := ⟨h.kn.below k, own_keep h.row fun g hg => k.block g (h.row.lt g hg).2, keepB h.bel k⟩
theorem HS.ask (h : HS w w1 b lb l S m av y) (hl : isR l = true) (c : ByteArray) (hc : c.size ≤ 1000000) (hce : c.toList.isEmpty = false) (u now : Int) (hu : isA u = true) (hn : S.now ≤ now) (hn1 : now ≤ 9223372036854775807) (hb : bey S.G l c u now = false) (hlen : S.G.length < 300) (hw1 : w.heap.size ≤ w1.heap.size) : Calls Try.prog 15 #[.pointer (some ⟨b, 0, none⟩), lmv l, .string c, .int .i64 u, .int .i64 now] y fun e z => e = .returned (.int .i64 0) ∧ ∃ m', HN w w1 b lb l S (giveS (nowS S now) c u) m' av z := by
  have h7 := h.few
  refine (ask_any h.kn.bk l hl c hc hce u now hu hn hn1 hb (by have := h.gv; omega) (by omega)).mono ?_
  rintro e z ⟨rfl, hz⟩
  have hle : (mOf S c m : Int) ≤ S.most := by rw [h.most]; unfold mOf; split <;> omega
  rcases hz with ⟨-, hz⟩ | ⟨hlt, -⟩
  · exact ⟨rfl, _, h.kn.pb hz, hz.2.1.row h.row (by decide), h.bel.trans (hz.2.2.mono hw1)⟩
  · omega
theorem HN.used {S' : St} (h : HN w w1 b lb l S S' m av y) (hl : isR l = true) (c : ByteArray) (hc : c.size ≤ 1000000) (now : Int) (hn : 0 ≤ now ∧ now ≤ 9223372036854775807) : Calls Try.prog 14 #[.pointer (some ⟨b, 0, none⟩), lmv l, .string c, .int .i64 now] y fun e z => e = .returned (.tuple #[.int .i64 (cnt S'.G c (now - l.window + 1)), .int .i64 (smm S'.G c (now - l.window + 1))]) ∧ HN w w1 b lb l S S' m av z := by
  refine (used_ok h.kn.bk l hl c hc now hn).mono ?_
  rintro e z ⟨rfl, hz⟩
  exact ⟨rfl, h.below hz⟩
theorem HS.cells (h : HS w w1 b lb l S m av y) (k : Nat) (hk : k < S.G.length) : ∃ gr cap, av = .slice (some ⟨gr, 0, none⟩) S.G.length cap ∧ y.cell? ⟨gr, k * 3, none⟩ = some (.string S.G[k].1) ∧ y.cell? ⟨gr, k * 3 + 1, none⟩ = some (.int .i64 S.G[k].2.2.1) ∧ y.cell? ⟨gr, k * 3 + 2, none⟩ = some (.int .i64 S.G[k].2.2.2) := by
  rcases h.row.2 with ⟨rfl, h0⟩ | ⟨gr, cap, cur, rfl, r⟩
  · omega
  · obtain ⟨e0, e1, e2⟩ := gvc_at S.G k hk
    have c0 := h.row.cells (g := gr) rfl _ _ e0
    have c1 := h.row.cells (g := gr) rfl _ _ e1
    have c2 := h.row.cells (g := gr) rfl _ _ e2
    rw [add_zero] at c0 c1 c2
    exact ⟨gr, cap, rfl, c0, c1, c2⟩
/-- the law's own list has it, too -/
theorem HN.push {g4 cap : Nat} {c : ByteArray} {u now : Int} (h : HN w w1 b lb l S (giveS (nowS S now) c u) m av y) (hlim : Lim (giveS (nowS S now) c u) l) (hcr : ∀ g ∈ S.G, ∃ k, k < 7 ∧ g.1 = crd ((k : Nat) : Int)) (hc : ∃ k, k < 7 ∧ c = crd ((k : Nat) : Int)) (hgv : S.gv = (S.G.length : Int)) (hm : S.most = 10) {o : Obj}
    (hr : z.ownsRow w1.heap.size tGv 3 (.slice (some ⟨g4, 0, none⟩) (S.G.length + 1) cap) (S.G.length + 1) (gvc S.G ++ [.string c, .int .i64 u, .int .i64 now])) (hg : (y.alloc o).grownBy z av.ownBlock) (hb1 : w1.heap.size ≤ y.heap.size) (hw1 : w.heap.size ≤ w1.heap.size) : HS w w1 b lb l (giveS (nowS S now) c u) m (.slice (some ⟨g4, 0, none⟩) (S.G.length + 1) cap) z := by
  have ha := h.below (below_one y o)
  have hne : ∀ (k : Nat) (cc : Array Value) (t : TypeId) (f : Nat × Nat), (y.alloc o).heap[k]? = some (.cells cc t f) → t ≠ tGv → z.heap[k]? = some (.cells cc t f) := fun k cc t f hk ht => (hg.block k (Array.getElem?_eq_some_iff.1 hk).1 (fun e => by
    obtain ⟨c2, hc2⟩ := own_ty ha.row e.symm
    exact ty_ne hk hc2 ht rfl)).trans hk
  have KT1 : KT (fun t => t == tGv) (y.alloc o) z := ⟨hg.os, hg.tape, hg.output, hg.size, fun k ob hk hn => (hg.block k (Array.getElem?_eq_some_iff.1 hk).1 (fun e => by
    obtain ⟨c2, hc2⟩ := own_ty ha.row e.symm
    rw [hk] at hc2
    injection hc2 with hc2
    have := hn _ _ _ hc2
    revert this; decide)).trans hk⟩
  have bel2 : Below w1.heap.size (y.alloc o) z := (Below.refl _ _).grown hg (by simp; omega) (fun j hj => (ha.row.lt j hj).1)
  obtain ⟨cm, cn, D, av2, A, k1, k2, k3, k4, k5⟩ := ha.kn.bk
  refine ⟨⟨⟨cm, cn, D, av2, A, ⟨⟨KT1.cells k1.hp.blk (by decide), rfl, KT1.row k1.hp.row (by decide), fun i hi => KT1.cells (k1.hp.recs i hi) (by decide), k1.hp.apart, k1.hp.low, k1.hp.lowr, Nat.le_trans k1.hp.bas KT1.size, k1.hp.len⟩, fun a ha => rb_kt (k1.rb a ha) KT1 (by decide) (by decide), k1.apart, KT1.map k1.cards, k1.cma, k1.lowc, k1.mp, k1.cn⟩, k2, k3, k4, k5⟩, KT1.cells ha.kn.li (by decide), ha.kn.bel.trans bel2⟩, ?_, hlim, ?_, ?_, hm, ha.bel.trans (bel2.mono hw1)⟩
  · show z.ownsRow _ _ _ _ (S.G ++ [(c, (S.gv + 1, u, now))]).length (gvc (S.G ++ [(c, (S.gv + 1, u, now))]))
    rw [List.length_append, List.length_singleton, gvc_append]
    exact hr
  · intro g hg2
    rcases List.mem_append.1 hg2 with hg2 | hg2
    · exact hcr g hg2
    · rw [List.mem_singleton.1 hg2]; exact hc
  · show S.gv + 1 = ((S.G ++ [(c, (S.gv + 1, u, now))]).length : Int)
    rw [List.length_append, List.length_singleton]; omega
end
end Go.Proofs.Ytmaikkhemhonhaa.Ek
