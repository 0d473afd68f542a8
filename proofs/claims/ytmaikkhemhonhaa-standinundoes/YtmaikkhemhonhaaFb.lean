/- Undo where the card's last approval goes: the book. -/
import Derived.Test.YtmaikkhemhonhaaFa
namespace Go.Proofs.Ytmaikkhemhonhaa.Fb
set_option linter.unusedVariables false
set_option linter.unusedSimpArgs false
open Go.RowKit Go.Maps Lib0 Kb Xp Da Db Dc Dd De Df Dh Di Dj Dk Dl Dm Dn Dp Dq Dr Ds Dt Du Dv Dw Dy Dz Ea Eb Ec Ed Ee Ef Fa
attribute [local go_sem] Oper.semAt_some
section
variable {x y : World} {base b : Nat} {most now gv : Int} {cm cn : Nat} {D : DataW Value} {av : Value} {A B : List Rc}
/-- one record alone has lost its sheet -/
theorem bkx_rec (h : BkM x base b most now gv cm cn D av A) (i : Nat) (hi : i < A.length) {a : Rc} (hr : y.heap[a.gr]? = some (.cells (rcs a i) tR (0, 0))) (e1 : a.card = A[i].card) (e2 : a.gr = A[i].gr) (e3 : a.gm = A[i].gm) (e4 : a.gs = A[i].gs) (e5 : a.rv = A[i].rv) (fr : FrP (fun b => OwnR A[i] b ∨ b = A[i].gm) x y) : BkX y base b most now gv cm cn D av (A.set i a) i := by
  have hrm := h.rm hi
  have xc : ∀ (k : Nat) (cc : Array Value) (t : TypeId) (f : Nat × Nat), x.heap[k]? = some (.cells cc t f) → sR t = false → y.heap[k]? = some (.cells cc t f) := fun k cc t f hk ht => by
    refine (fr.block k (Array.getElem?_eq_some_iff.1 hk).1 (fun hO => ?_)).trans hk
    rcases hO with (hO | hO | hO) | hO
    · exact ty_ne hk hrm.1 (fun e => by subst e; revert ht; decide) hO
    · exact ty_ne hk hrm.2.sh.blk (fun e => by subst e; revert ht; decide) hO
    · obtain ⟨c, hc⟩ := own_ty hrm.2.sh.row hO
      exact ty_ne hk hc (fun e => by subst e; revert ht; decide) rfl
    · obtain ⟨es, cl, e, -⟩ := hrm.2.own
      rw [← hO, hk] at e
      cases e
  have xm : ∀ {kt : TypeId} {R : Value → Option (DataW Value × List MemPlace)} {g n : Nat} {E : DataW Value}, x.ownsMap Try.prog kt R g n E → g ≠ A[i].gm → y.ownsMap Try.prog kt R g n E := fun {kt R g n E} ho hg => by
    obtain ⟨es, cl, e, r⟩ := ho
    refine ⟨es, cl, (fr.block g (Array.getElem?_eq_some_iff.1 e).1 (fun hO => ?_)).trans e, r⟩
    rcases hO with (hO | hO | hO) | hO
    · have := hrm.1; rw [← hO, e] at this; cases this
    · have := hrm.2.sh.blk; rw [← hO, e] at this; cases this
    · obtain ⟨c, hc⟩ := own_ty hrm.2.sh.row hO
      rw [e] at hc; cases hc
    · exact hg hO
  have xr : ∀ {bb n sz : Nat} {t : TypeId} {v : Value} {xs : List Value}, x.ownsRow bb t sz v n xs → sR t = false → y.ownsRow bb t sz v n xs := fun ho ht => own_keep ho fun k hk => by
    obtain ⟨cc, hcc⟩ := own_ty ho hk
    exact (xc k _ _ _ hcc ht).trans hcc.symm
  have hl : (A.set i a).length = A.length := List.length_set
  have hgr : (A.set i a).map (fun a => ptr a.gr) = A.map fun a => ptr a.gr := by
    rw [List.map_set, e2]
    apply List.ext_getElem?
    intro j
    by_cases e : i = j
    · subst e; simp [hi]
    · rw [List.getElem?_set_ne e]
  have hap : ∀ j (hj : j < A.length), j ≠ i → Apart A[j] a := fun j hj hne => by
    have h1 := at_pair (fun h => Apart.symm h) h.apart hj hi hne
    exact ⟨by rw [e2]; exact h1.1, by rw [e3]; exact h1.2.1, by rw [e4]; exact h1.2.2.1, fun g hg => by rw [e5]; exact h1.2.2.2 g hg⟩
  have hpw : ∀ {P : Rc → Rc → Prop}, (∀ {a c}, P a c → P c a) → A.Pairwise P → (∀ j (hj : j < A.length), j ≠ i → P A[j] a) → (A.set i a).Pairwise P := fun hs hA hP => by
    rw [List.pairwise_iff_getElem]
    intro s t hs1 ht1 hst
    rw [List.getElem_set, List.getElem_set]
    rw [hl] at hs1 ht1
    split
    · next e => subst e; rw [if_neg (by omega)]; exact hs (hP t ht1 (by omega))
    · split
      · next e => subst e; exact hP s hs1 (by omega)
      · exact List.pairwise_iff_getElem.1 hA s t hs1 ht1 hst
  have hmem : ∀ c ∈ A.set i a, c = a ∨ ∃ j, ∃ hj : j < A.length, j ≠ i ∧ c = A[j] := fun c hc => by
    obtain ⟨j, hj, rfl⟩ := List.getElem_of_mem hc
    rw [hl] at hj
    rw [List.getElem_set]
    split
    · exact .inl rfl
    · next e => exact .inr ⟨j, hj, fun e2 => e e2.symm, rfl⟩
  have hsk : ∀ l, (∃ c ∈ A.set i a, sk c.card = l) ↔ ∃ c ∈ A, sk c.card = l := fun l => by
    constructor
    · rintro ⟨c, hc, e⟩
      rcases hmem c hc with rfl | ⟨j, hj, -, rfl⟩
      · exact ⟨A[i], List.getElem_mem hi, by rw [← e1]; exact e⟩
      · exact ⟨A[j], List.getElem_mem hj, e⟩
    · rintro ⟨c, hc, e⟩
      obtain ⟨j, hj, rfl⟩ := List.getElem_of_mem hc
      by_cases ej : i = j
      · subst ej
        exact ⟨a, List.mem_set hi a, by rw [e1]; exact e⟩
      · exact ⟨A[j], by rw [List.mem_iff_getElem]; exact ⟨j, by rw [hl]; exact hj, by rw [List.getElem_set_ne ej]⟩, e⟩
  refine ⟨⟨xc _ _ _ _ h.hp.blk (by decide), h.hp.at4, ?_, fun j hj => ?_, ?_, h.hp.low, fun c hc => ?_, Nat.le_trans h.hp.bas fr.size, by rw [hl]; exact h.hp.len⟩, fun c hc hcc => ?_, ?_, xm h.cards (fun e => h.cma _ (List.getElem_mem hi) e.symm), fun c hc => ?_, h.lowc, ⟨h.mp.tidy, fun l => by rw [hsk]; exact h.mp.has l, fun c hc z => ?_, by rw [hl]; exact h.mp.size, ?_⟩, h.cn⟩
  · rw [hl, hgr]; exact xr h.hp.row (by decide)
  · rw [hl] at hj
    by_cases e : i = j
    · subst e; rw [List.getElem_set_self]; exact hr
    · rw [List.getElem_set_ne e]
      have hrj := h.hp.recs j hj
      refine (fr.block _ (Array.getElem?_eq_some_iff.1 hrj).1 (fun hO => ?_)).trans hrj
      rcases hO with (hO | hO | hO) | hO
      · exact pair_ne h.hp.apart hj hi (fun e2 => e e2.symm) hO
      · exact ty_ne hrj hrm.2.sh.blk (by decide) hO
      · obtain ⟨c, hc⟩ := own_ty hrm.2.sh.row hO
        exact ty_ne hrj hc (by decide) rfl
      · obtain ⟨es, cl, e, -⟩ := hrm.2.own
        rw [← hO, hrj] at e
        cases e
  · exact hpw (fun h => h.symm) h.hp.apart (fun j hj hne => (hap j hj hne).1)
  · rcases hmem c hc with rfl | ⟨j, hj, -, rfl⟩
    · rw [e2]; exact h.hp.lowr _ (List.getElem_mem hi)
    · exact h.hp.lowr _ (List.getElem_mem hj)
  · rcases hmem c hc with rfl | ⟨j, hj, hne, rfl⟩
    · exact absurd (by rw [List.getElem_set_self]) (hcc (by rw [hl]; exact hi))
    · have hb := h.rb _ (List.getElem_mem hj)
      have h1 := at_pair (fun h => Apart.symm h) h.apart hj hi hne
      refine ⟨xm hb.own h1.2.1, hb.one, ⟨(fr.block _ (Array.getElem?_eq_some_iff.1 hb.sh.blk).1 (fun hO => ?_)).trans hb.sh.blk, own_keep hb.sh.row fun g hg => fr.block g (hb.sh.row.lt g hg).2 (fun hO => ?_), hb.sh.low⟩, hb.lowm, hb.lowr, hb.op, hb.up, hb.am, hb.len, hb.nm, hb.opn⟩
      · rcases hO with (hO | hO | hO) | hO
        · exact ty_ne hb.sh.blk hrm.1 (by decide) hO
        · exact h1.2.2.1 hO
        · obtain ⟨c, hc⟩ := own_ty hrm.2.sh.row hO
          exact ty_ne hb.sh.blk hc (by decide) rfl
        · obtain ⟨es, cl, e, -⟩ := hrm.2.own
          have := hb.sh.blk
          rw [hO, e] at this
          cases this
      · obtain ⟨c, hc⟩ := own_ty hb.sh.row hg
        rcases hO with (hO | hO | hO) | hO
        · exact ty_ne hc hrm.1 (by decide) hO
        · exact ty_ne hc hrm.2.sh.blk (by decide) hO
        · exact h1.2.2.2 g hg hO
        · obtain ⟨es, cl, e, -⟩ := hrm.2.own
          rw [hO, e] at hc
          cases hc
  · exact hpw (fun h => Apart.symm h) h.apart hap
  · rcases hmem c hc with rfl | ⟨j, hj, -, rfl⟩
    · rw [e3]; exact h.cma _ (List.getElem_mem hi)
    · exact h.cma _ (List.getElem_mem hj)
  · rcases hmem c hc with rfl | ⟨j, hj, -, rfl⟩
    · rw [e1, e2]; exact h.mp.at_ _ (List.getElem_mem hi) z
    · exact h.mp.at_ _ (List.getElem_mem hj) z
  · exact hpw (fun h => h.symm) h.mp.nd (fun j hj hne => by rw [e1]; exact at_pair (fun h => Ne.symm h) h.mp.nd hj hi hne)
end
theorem perm_set {A A' : List Rc} {i : Nat} {a : Rc} (hi : i < A.length) (p : (A' ++ [a]).Perm (A.set i a)) : (A' ++ [A[i]]).Perm A := by
  have e1 : A.set i a = A.take i ++ a :: A.drop (i + 1) := by rw [List.set_eq_take_append_cons_drop, if_pos hi]
  have e2 : A = A.take i ++ A[i] :: A.drop (i + 1) := by have e3 := List.take_append_drop i A; rw [← List.getElem_cons_drop hi] at e3; exact e3.symm
  rw [e1] at p
  have p1 : (A' ++ [a]).Perm ((A.take i ++ A.drop (i + 1)) ++ [a]) := p.trans (List.perm_middle.trans (List.perm_append_singleton _ _).symm)
  have p2 := (List.perm_append_right_iff _).1 p1
  have p3 : (A' ++ [A[i]]).Perm ((A.take i ++ A.drop (i + 1)) ++ [A[i]]) := p2.append_right _
  have p4 : ((A.take i ++ A.drop (i + 1)) ++ [A[i]]).Perm (A.take i ++ A[i] :: A.drop (i + 1)) := (List.perm_append_singleton _ _).trans List.perm_middle.symm
  have p5 := p3.trans p4
  rw [← e2] at p5
  exact p5
set_option maxRecDepth 100000 in
set_option maxHeartbeats 1600000 in
theorem settle_last {w : World} {base b : Nat} {most now gv : Int} {cm cn : Nat} {D : DataW Value} {av : Value} {A : List Rc} (i : Nat) (h : BkX w base b most now gv cm cn D av A i) (hi : i < A.length) (hsz : A[i].card.size ≤ 1000000) {n : Nat} {E : DataW Value} (hown : w.ownsMap Try.prog tI heldP A[i].gm n E) (hs : Maps.size E = 0) : Calls Try.prog 30 #[.pointer (some ⟨b, 0, none⟩), .pointer (some ⟨A[i].gr, 0, none⟩)] w fun e w' => e = .returned (.tuple #[]) ∧ PFX w base b most now gv cm cn A i A[i] w' := by
  have c1 : w.cell? ⟨A[i].gr, 1, none⟩ = some (.map (some A[i].gm)) := by
    have := h.hp.recs i hi
    unfold rcs at this
    simp [World.cell?, this]
  have HF : Hid (Calls Try.prog 28 #[.pointer (some ⟨b, 0, none⟩), .pointer (some ⟨A[i].gr, 0, none⟩)] w fun e w' => e = .returned (.tuple #[]) ∧ PFX w base b most now gv cm cn A i A[i] w') := forget_x i h hi hsz
  clear h hsz
  generalize A[i].gr = GR at *
  go_enter Try.func30, Try.ntmps30
  go_wp2_with (first | (at_len; refine wpList_len_own _ rfl _ tM rfl tI tPS Try.underlying88 heldP _ _ _ rfl hown ?_; rw [hs]) | fail)
  refine HF.out.mono ?_
  rintro e z ⟨rfl, hz⟩
  have HZ : Hid (PFX w base b most now gv cm cn A i A[i] z) := hz
  clear hz
  go_wp2_with fail
  (try simp only [Exit.inBlock, Exit.then])
  refine bodyPost_ret (results_none rfl _ _ _) rfl ?_
  exact ⟨rfl, HZ.out⟩
set_option maxRecDepth 100000 in
set_option maxHeartbeats 1600000 in
theorem undo_last {w : World} {base b : Nat} {S : St} {m : Nat} (h : Bk w base b S (m + 1)) (c : ByteArray) (hc : c.size ≤ 1000000) (u t : Int) (hp : Fst (lc S.G c) u t 0) (h2 : (lc S.G c).length = 1) : Calls Try.prog 17 #[.pointer (some ⟨b, 0, none⟩), .string c, .int .i64 u, .int .i64 t] w fun e w' => e = .returned (.bool true) ∧ PB w base b (fgt S c) m w' := by
  obtain ⟨cm, cn, D, av, A, h1, h2g, h3, h4, h5⟩ := h
  obtain ⟨x, hx⟩ := List.exists_mem_of_length_pos (show 0 < (lc S.G c).length by omega)
  obtain ⟨a, ha, hac⟩ := h2g.all _ (lc_mem hx)
  dsimp only at hac
  obtain ⟨i, hi, rfl⟩ := List.getElem_of_mem ha
  have hL : A[i].L = lc S.G c := by rw [h2g.eq _ ha, hac]
  have hcm : c.size ≤ maxLen := by unfold maxLen; omega
  have hlk := look_rec h1.cards h1.mp ha (by rw [hac]; exact hcm)
  rw [hac] at hlk
  unfold ptr at hlk
  obtain ⟨-, -, -, c3, -⟩ := h1.cells
  have HTK : Hid (Calls Try.prog 29 #[.pointer (some ⟨A[i].gr, 0, none⟩), .int .i64 u, .int .i64 t] w fun e w' => e = .returned (.bool true) ∧ Hid (Calls Try.prog 30 #[.pointer (some ⟨b, 0, none⟩), .pointer (some ⟨A[i].gr, 0, none⟩)] w' fun e z => e = .returned (.tuple #[]) ∧ PB w base b (fgt S c) m z)) := by
    refine (takeOutR_last (h1.rm hi) h1.hp.bas u t (by rw [hL]; exact hp) (by rw [hL]; exact h2)).mono ?_
    rintro e y ⟨rfl, r1, ⟨n, E, r2, r3⟩, r4⟩
    have M3 := bkx_rec h1 i hi (a := { A[i] with L := [] }) r1 rfl rfl rfl rfl rfl r4
    have hl' : (A.set i { A[i] with L := [] }).length = A.length := List.length_set
    have hgi : (A.set i { A[i] with L := [] })[i]'(by omega) = { A[i] with L := [] } := List.getElem_set_self _
    have hse := settle_last i M3 (by omega) (by rw [hgi]; show A[i].card.size ≤ _; rw [hac]; exact hc) (n := n) (E := E) (by rw [hgi]; exact r2) r3
    rw [hgi] at hse
    refine ⟨rfl, hse.mono ?_⟩
    rintro e z ⟨rfl, D', av', A', k1, k2, k3, k4, k5⟩
    have pm := perm_set hi k2
    have hlA : A'.length = m := by have := pm.length_eq; rw [List.length_append, List.length_singleton] at this; omega
    have F3 : FixOk (kN (A.set i { A[i] with L := [] })) (A.set i { A[i] with L := [] }).length i := by rw [hl']; exact hp_fix2 h3 hi (fun m _ hm => kN_set hm)
    have hG : Gt A' (fgt S c).G := by
      have := gt_del h2g h1.mp.nd pm
      rw [hac] at this
      exact this
    have K3 : KC w y := ⟨r4.os, r4.tape, r4.output, r4.size, fun g cc t f hg ht => by
      refine (r4.block g (Array.getElem?_eq_some_iff.1 hg).1 (fun hO => ?_)).trans hg
      rcases hO with (hO | hO | hO) | hO
      · exact ty_ne hg (h1.rm hi).1 (fun e => by subst e; revert ht; decide) hO
      · exact ty_ne hg (h1.rm hi).2.sh.blk (fun e => by subst e; revert ht; decide) hO
      · obtain ⟨c, hc⟩ := own_ty (h1.rm hi).2.sh.row hO
        exact ty_ne hg hc (fun e => by subst e; revert ht; decide) rfl
      · obtain ⟨es, cl, e, -⟩ := (h1.rm hi).2.own
        rw [← hO, hg] at e
        cases e⟩
    have b3 : Below base w y := ⟨r4.os, r4.tape, r4.output, r4.size, fun k hk => r4.block k (by have := h1.hp.bas; omega) (fun hO => by
      have hb := h1.rb _ ha
      rcases hO with (hO | hO | hO) | hO
      · have := hb.lowr; omega
      · have := hb.sh.low; omega
      · have := (hb.sh.row.lt k hO).1; omega
      · have := hb.lowm; omega)⟩
    exact ⟨rfl, ⟨cm, cn, D', av', A', k1, hG, k3 F3, hlA, iv_sub h5 List.filter_sublist⟩, K3.trans k4, b3.trans k5⟩
  generalize A[i].gr = GR at *
  clear h1 h2g h3 h4 h5 hp h2 hx ha hac hL hcm hc
  go_enter Try.func17, Try.ntmps17
  go_wp2_with fail
  refine HTK.out.mono ?_
  rintro e y ⟨rfl, HS⟩
  go_wp2_with fail
  refine HS.out.mono ?_
  rintro e z ⟨rfl, hz⟩
  go_wp2_with fail
  go_ret
  exact ⟨rfl, hz⟩
end Go.Proofs.Ytmaikkhemhonhaa.Fb
