/- What a book's parts become. -/
import Derived.Test.YtmaikkhemhonhaaDr
namespace Go.Proofs.Ytmaikkhemhonhaa.Ds
set_option linter.unusedVariables false
set_option linter.unusedSimpArgs false
open Go.RowKit Go.Maps Lib0 Kb Xp Da Db Dc Dd De Df Dh Di Dj Dk Dl Dm Dn Dp Dq Dr
attribute [local go_sem] Oper.semAt_some
section
variable {x y : World} {base b : Nat} {most now gv most' now' gv' : Int} {cm cn : Nat} {D : DataW Value} {av : Value} {A B : List Rc}
theorem shm_kt {S : TypeId → Bool} {g : Nat} {v : Value} {L : List Ap} (h : ShM x base g v L) (k : KT S x y) (h1 : S tS = false) (h2 : S tA = false) : ShM y base g v L := ⟨k.cells h.blk h1, k.row h.row h2, h.low⟩
theorem rb_kt {S : TypeId → Bool} {a : Rc} (h : RB x base a) (k : KT S x y) (h1 : S tS = false) (h2 : S tA = false) : RB y base a := ⟨k.map h.own, h.one, shm_kt h.sh k h1 h2, h.lowm, h.lowr, h.op, h.up, h.am, h.len, h.nm, h.opn⟩
/-- the book's own cells alone are written -/
theorem bkm_turn (h : BkM x base b most now gv cm cn D av A) (k : KT (fun t => t == tB) x y) (hb : y.heap[b]? = some (.cells (bcs most' now' gv' cm av) tB (0, 0))) (hg : cn ≤ gv'.toNat) : BkM y base b most' now' gv' cm cn D av A :=
  ⟨⟨hb, rfl, k.row h.hp.row (by decide), fun i hi => k.cells (h.hp.recs i hi) (by decide), h.hp.apart, h.hp.low, h.hp.lowr, Nat.le_trans h.hp.bas k.size, h.hp.len⟩, fun a ha => rb_kt (h.rb a ha) k (by decide) (by decide), h.apart, k.map h.cards, h.cma, h.lowc, h.mp, hg⟩
theorem bkm_set (h : BkM x base b most now gv cm cn D av A) {o : Nat} {v : Value} (hc : (bcs most now gv cm av).setIfInBounds o v = bcs most' now' gv' cm av) (hg : cn ≤ gv'.toNat) : BkM (x.setCell ⟨b, o, none⟩ v) base b most' now' gv' cm cn D av A := bkm_turn h (KT.set h.hp.blk (by decide) _) (by rw [setCell_heap h.hp.blk, hc]) hg
/-- records in another order -/
theorem bkm_order (h : BkM x base b most now gv cm cn D av A) (hb : HpM y base b (bcs most now gv cm av) av B) (p : B.Perm A) (k : KT sH x y) : BkM y base b most now gv cm cn D av B :=
  ⟨hb, fun a ha => rb_kt (h.rb a (p.mem_iff.1 ha)) k (by decide) (by decide), (p.pairwise_iff (fun h => Apart.symm h)).2 h.apart, k.map h.cards, fun a ha => h.cma a (p.mem_iff.1 ha), h.lowc, h.mp.perm p, h.cn⟩
def sR (t : TypeId) : Bool := t == tR || t == tS || t == tA
theorem kt_r {a : Rc} {pl : Int} (h : FrP (OwnR a) x y) (hr : RM x base a pl) : KT sR x y :=
  ⟨h.os, h.tape, h.output, h.size, fun k o hk hn => (h.block k (Array.getElem?_eq_some_iff.1 hk).1 (fun e => by
    rcases e with rfl | rfl | e
    · rw [hr.1] at hk
      injection hk with hk
      have := hn _ _ _ hk.symm
      revert this; decide
    · rw [hr.2.sh.blk] at hk
      injection hk with hk
      have := hn _ _ _ hk.symm
      revert this; decide
    · obtain ⟨c, hc⟩ := own_ty hr.2.sh.row e
      rw [hc] at hk
      injection hk with hk
      have := hn _ _ _ hk.symm
      revert this; decide)).trans hk⟩
theorem at_pair {P : Rc → Rc → Prop} (hs : ∀ {a c}, P a c → P c a) (h : A.Pairwise P) {i j : Nat} (hi : i < A.length) (hj : j < A.length) (hij : i ≠ j) : P A[i] A[j] := by
  by_cases e : i < j
  · exact List.pairwise_iff_getElem.1 h i j hi hj e
  · exact hs (List.pairwise_iff_getElem.1 h j i hj hi (by omega))
/-- one record alone has turned: its row and its approvals -/
theorem bkm_rec (h : BkM x base b most now gv cm cn D av A) (i : Nat) (hi : i < A.length) {a : Rc} (hr : RM y base a i) (e1 : a.card = A[i].card) (e2 : a.gr = A[i].gr) (e3 : a.gm = A[i].gm) (e4 : a.gs = A[i].gs) (hn : Nw A[i].rv a.rv x.heap.size) (fr : FrP (OwnR A[i]) x y) : BkM y base b most now gv cm cn D av (A.set i a) := by
  have k := kt_r fr (h.rm hi)
  have hl : (A.set i a).length = A.length := List.length_set
  have hgr : (A.set i a).map (fun a => ptr a.gr) = A.map fun a => ptr a.gr := by
    rw [List.map_set, e2]
    apply List.ext_getElem?
    intro j
    by_cases e : i = j
    · subst e; simp [hi]
    · rw [List.getElem?_set_ne e]
  have hap : ∀ j (hj : j < A.length), j ≠ i → Apart A[j] a := fun j hj hne => by
    have h1 := at_pair (fun h => Apart.symm h) h.apart hj hi hne
    refine ⟨by rw [e2]; exact h1.1, by rw [e3]; exact h1.2.1, by rw [e4]; exact h1.2.2.1, fun g hg hg2 => ?_⟩
    rcases hn g hg2 with e | e
    · exact h1.2.2.2 g hg e
    · have := ((h.rb _ (List.getElem_mem hj)).sh.row.lt g hg).2
      omega
  have hpw : ∀ {P : Rc → Rc → Prop}, (∀ {a c}, P a c → P c a) → A.Pairwise P → (∀ j (hj : j < A.length), j ≠ i → P A[j] a) → (A.set i a).Pairwise P := fun hs hA hP => by
    rw [List.pairwise_iff_getElem]
    intro s t hs1 ht1 hst
    rw [List.getElem_set, List.getElem_set]
    rw [hl] at hs1 ht1
    split
    · next e => subst e; rw [if_neg (by omega)]; exact hs (hP t ht1 (by omega))
    · split
      · next e => subst e; exact hP s hs1 (by omega)
      · exact List.pairwise_iff_getElem.1 hA s t hs1 ht1 hst
  have hmem : ∀ c ∈ A.set i a, c = a ∨ ∃ j, ∃ hj : j < A.length, j ≠ i ∧ c = A[j] := fun c hc => by
    obtain ⟨j, hj, rfl⟩ := List.getElem_of_mem hc
    rw [hl] at hj
    rw [List.getElem_set]
    split
    · exact .inl rfl
    · next e => exact .inr ⟨j, hj, fun e2 => e e2.symm, rfl⟩
  have hsk : ∀ l, (∃ c ∈ A.set i a, sk c.card = l) ↔ ∃ c ∈ A, sk c.card = l := fun l => by
    constructor
    · rintro ⟨c, hc, e⟩
      rcases hmem c hc with rfl | ⟨j, hj, -, rfl⟩
      · exact ⟨A[i], List.getElem_mem hi, by rw [← e1]; exact e⟩
      · exact ⟨A[j], List.getElem_mem hj, e⟩
    · rintro ⟨c, hc, e⟩
      obtain ⟨j, hj, rfl⟩ := List.getElem_of_mem hc
      by_cases ej : i = j
      · subst ej
        exact ⟨a, List.mem_set hi a, by rw [e1]; exact e⟩
      · exact ⟨A[j], by rw [List.mem_iff_getElem]; exact ⟨j, by rw [hl]; exact hj, by rw [List.getElem_set_ne ej]⟩, e⟩
  refine ⟨⟨k.cells h.hp.blk (by decide), h.hp.at4, ?_, fun j hj => ?_, ?_, h.hp.low, fun c hc => ?_, Nat.le_trans h.hp.bas k.size, by rw [hl]; exact h.hp.len⟩, fun c hc => ?_, ?_, k.map h.cards, fun c hc => ?_, h.lowc, ⟨h.mp.tidy, fun l => by rw [hsk]; exact h.mp.has l, fun c hc z => ?_, by rw [hl]; exact h.mp.size, ?_⟩, h.cn⟩
  · rw [hl, hgr]; exact k.row h.hp.row (by decide)
  · rw [hl] at hj
    by_cases e : i = j
    · subst e; rw [List.getElem_set_self]; exact hr.1
    · rw [List.getElem_set_ne e]
      have hrj := h.hp.recs j hj
      refine (fr.block _ (Array.getElem?_eq_some_iff.1 hrj).1 (fun hO => ?_)).trans hrj
      rcases hO with hO | hO | hO
      · exact pair_ne h.hp.apart hj hi (fun e2 => e e2.symm) hO
      · exact ty_ne hrj (h.rm hi).2.sh.blk (by decide) hO
      · obtain ⟨c, hc⟩ := own_ty (h.rm hi).2.sh.row hO
        exact ty_ne hrj hc (by decide) rfl
  · exact hpw (fun h => h.symm) h.hp.apart (fun j hj hne => (hap j hj hne).1)
  · rcases hmem c hc with rfl | ⟨j, hj, -, rfl⟩
    · exact hr.2.lowr
    · exact h.hp.lowr _ (List.getElem_mem hj)
  · rcases hmem c hc with rfl | ⟨j, hj, hne, rfl⟩
    · exact hr.2
    · have hb := h.rb _ (List.getElem_mem hj)
      have h1 := at_pair (fun h => Apart.symm h) h.apart hj hi hne
      refine ⟨k.map hb.own, hb.one, ⟨(fr.block _ (Array.getElem?_eq_some_iff.1 hb.sh.blk).1 (fun hO => ?_)).trans hb.sh.blk, own_keep hb.sh.row fun g hg => fr.block g (hb.sh.row.lt g hg).2 (fun hO => ?_), hb.sh.low⟩, hb.lowm, hb.lowr, hb.op, hb.up, hb.am, hb.len, hb.nm, hb.opn⟩
      · rcases hO with hO | hO | hO
        · exact ty_ne hb.sh.blk (h.rm hi).1 (by decide) hO
        · exact h1.2.2.1 hO
        · obtain ⟨c, hc⟩ := own_ty (h.rm hi).2.sh.row hO
          exact ty_ne hb.sh.blk hc (by decide) rfl
      · obtain ⟨c, hc⟩ := own_ty hb.sh.row hg
        rcases hO with hO | hO | hO
        · exact ty_ne hc (h.rm hi).1 (by decide) hO
        · exact ty_ne hc (h.rm hi).2.sh.blk (by decide) hO
        · exact h1.2.2.2 g hg hO
  · exact hpw (fun h => Apart.symm h) h.apart hap
  · rcases hmem c hc with rfl | ⟨j, hj, -, rfl⟩
    · rw [e3]; exact h.cma _ (List.getElem_mem hi)
    · exact h.cma _ (List.getElem_mem hj)
  · rcases hmem c hc with rfl | ⟨j, hj, -, rfl⟩
    · rw [e1, e2]; exact h.mp.at_ _ (List.getElem_mem hi) z
    · exact h.mp.at_ _ (List.getElem_mem hj) z
  · exact hpw (fun h => h.symm) h.mp.nd (fun j hj hne => by rw [e1]; exact at_pair (fun h => Ne.symm h) h.mp.nd hj hi hne)
end
end Go.Proofs.Ytmaikkhemhonhaa.Ds
