/- forget. -/
import Derived.Test.YtmaikkhemhonhaaDu
namespace Go.Proofs.Ytmaikkhemhonhaa.Dv
set_option linter.unusedVariables false
set_option linter.unusedSimpArgs false
open Go.RowKit Go.Maps Lib0 Kb Xp Da Db Dc Dd De Df Dh Di Dj Dk Dl Dm Dn Dp Dq Dr Ds Dt Du
attribute [local go_sem] Oper.semAt_some
theorem mp_del {D : DataW Value} {A A' : List Rc} {a : Rc} (h : Mp D A) (p : (A' ++ [a]).Perm A) : Mp (D.del (sk a.card)) A' := by
  have hp := h.perm p
  have hA : ∀ c ∈ A', c.card ≠ a.card := fun c hc => (List.pairwise_append.1 hp.nd).2.2 c hc a (by simp)
  refine ⟨h.tidy.del _, fun l => ?_, fun c hc z => ?_, ?_, (List.pairwise_append.1 hp.nd).1⟩
  · by_cases e : l = sk a.card
    · subst e
      rw [Maps.has_del_same]
      exact ⟨fun h => (by cases h), fun ⟨c, hc, e⟩ => absurd e (sk_ne (hA c hc))⟩
    · rw [Maps.has_del_other e, hp.has]
      constructor
      · rintro ⟨c, hc, e2⟩
        rcases List.mem_append.1 hc with hc | hc
        · exact ⟨c, hc, e2⟩
        · rw [List.mem_singleton.1 hc] at e2; exact absurd e2.symm e
      · rintro ⟨c, hc, e2⟩; exact ⟨c, by simp [hc], e2⟩
  · rw [Maps.atKey_del_other (sk_ne (hA c hc))]; exact hp.at_ c (by simp [hc]) z
  · have := Maps.size_del (k := sk a.card) h.tidy
    rw [(hp.has _).2 ⟨a, by simp, rfl⟩, h.size, ← p.length_eq, List.length_append, List.length_singleton] at this
    simp at this ⊢
    omega
def PF (w : World) (base b : Nat) (most now gv : Int) (cm cn : Nat) (A : List Rc) (a : Rc) (y : World) : Prop := ∃ D' av' A', BkM y base b most now gv cm cn D' av' A' ∧ (A' ++ [a]).Perm A ∧ (Hp (kN A) A.length → Hp (kN A') A'.length) ∧ KC w y ∧ Below base w y
/-- a book in memory in which one record may have lost its sheets -/
structure BkX (x : World) (base b : Nat) (most now gv : Int) (cm cn : Nat) (D : DataW Value) (av : Value) (A : List Rc) (i : Nat) : Prop where
  hp : HpM x base b (bcs most now gv cm av) av A
  rb : ∀ a ∈ A, (∀ hi : i < A.length, a.card ≠ A[i].card) → RB x base a
  apart : A.Pairwise Apart
  cards : x.ownsMap Try.prog tStr heldP cm cn D
  cma : ∀ a ∈ A, a.gm ≠ cm
  lowc : base ≤ cm
  mp : Mp D A
  cn : cn ≤ gv.toNat
theorem BkX.below {x y : World} {base b : Nat} {most now gv : Int} {cm cn : Nat} {D : DataW Value} {av : Value} {A : List Rc} {i : Nat} (h : BkX x base b most now gv cm cn D av A i) (k : Below x.heap.size x y) : BkX y base b most now gv cm cn D av A i := by
  obtain ⟨es, cl, e, r⟩ := h.cards
  exact ⟨h.hp.below k, fun a ha hne => (h.rb a ha hne).below k, h.apart, ⟨es, cl, (k.block _ h.cards.lt).trans e, r⟩, h.cma, h.lowc, h.mp, h.cn⟩
theorem BkX.of {x : World} {base b : Nat} {most now gv : Int} {cm cn : Nat} {D : DataW Value} {av : Value} {A : List Rc} {i : Nat} (h : BkM x base b most now gv cm cn D av A) : BkX x base b most now gv cm cn D av A i := ⟨h.hp, fun a ha _ => h.rb a ha, h.apart, h.cards, h.cma, h.lowc, h.mp, h.cn⟩
def PFX (w : World) (base b : Nat) (most now gv : Int) (cm cn : Nat) (A : List Rc) (i : Nat) (a : Rc) (y : World) : Prop := ∃ D' av' A', BkM y base b most now gv cm cn D' av' A' ∧ (A' ++ [a]).Perm A ∧ (FixOk (kN A) A.length i → Hp (kN A') A'.length) ∧ KC w y ∧ Below base w y
set_option maxRecDepth 100000 in
set_option maxHeartbeats 1600000 in
theorem forget_x {w : World} {base b : Nat} {most now gv : Int} {cm cn : Nat} {D : DataW Value} {av : Value} {A : List Rc} (i : Nat) (h : BkX w base b most now gv cm cn D av A i) (hi : i < A.length) (hsz : A[i].card.size ≤ 1000000) : Calls Try.prog 28 #[.pointer (some ⟨b, 0, none⟩), .pointer (some ⟨A[i].gr, 0, none⟩)] w fun e w' => e = .returned (.tuple #[]) ∧ PFX w base b most now gv cm cn A i A[i] w' := by
  have M1 := h.below ((Below.refl _ w).drew)
  have c4 : w.drew.cell? ⟨A[i].gr, 4, none⟩ = some (.int .i64 (i : Int)) := by
    have := M1.hp.recs i hi
    unfold rcs at this
    simp [World.cell?, this]
  have HREM : Hid (Calls Try.prog 41 #[hv b, .int .i64 (i : Int)] w.drew fun e w' => (∃ v, e = .returned v) ∧ (w'.drew.cell? ⟨b, 3, none⟩ = some (.map (some cm)) ∧ w'.drew.cell? ⟨A[i].gr, 0, none⟩ = some (.string A[i].card)) ∧ ∃ w5, (Builtin.delete_ #[tMC, tStr] 0 #[.map (some cm), .string A[i].card]).run Try.prog w'.drew = .ok (.tuple #[]) w5 ∧ Hid (PFX w base b most now gv cm cn A i A[i] w5)) := by
    refine (remove_any M1.hp i hi).mono ?_
    rintro e y ⟨hv, A', pm, ⟨av', q1, q2, q3⟩, qo, pl, hrec⟩
    rw [bcs_set] at q1
    have own1 : y.ownsMap Try.prog tStr heldP cm cn D := q2.map M1.cards
    obtain ⟨w5, hrun, own5, ht5⟩ := own1.drew.drop lawS Try.underlying64 (key_s A[i].card (by unfold maxLen; omega)) 0
    have hk5 : ∀ k, k ≠ cm → w5.heap[k]? = y.heap[k]? := fun k hk => (turned_heap ht5 hk).1
    have hcells : ∀ (k : Nat) (cc : Array Value) (t : TypeId) (f : Nat × Nat), y.heap[k]? = some (.cells cc t f) → w5.heap[k]? = some (.cells cc t f) := fun k cc t f hk => (hk5 k (fun e => by
      subst e
      obtain ⟨es, cl, e2, -⟩ := own1
      rw [hk] at e2; cases e2)).trans hk
    have hrow5 : ∀ {bb n sz : Nat} {t : TypeId} {v : Value} {xs : List Value}, y.ownsRow bb t sz v n xs → w5.ownsRow bb t sz v n xs := fun ho => own_keep ho fun k hk => by
      obtain ⟨cc, hcc⟩ := own_ty ho hk
      exact (hcells k _ _ _ hcc).trans hcc.symm
    have rb5 : ∀ x : Rc, x.gm ≠ cm → RB y base x → RB w5 base x := fun x hx hr => by
      obtain ⟨es, cl, e2, r2⟩ := hr.own
      exact ⟨⟨es, cl, (hk5 _ hx).trans e2, r2⟩, hr.one, ⟨hcells _ _ _ _ hr.sh.blk, hrow5 hr.sh.row, hr.sh.low⟩, hr.lowm, hr.lowr, hr.op, hr.up, hr.am, hr.len, hr.nm, hr.opn⟩
    have hsz5 : w5.heap.size = y.heap.size := (turned_heap ht5 (k := cm + 1) (by omega)).2
    have hsub : ∀ x ∈ A', x ∈ A := fun x hx => pm.mem_iff.1 (by simp [hx])
    have hdif : ∀ x ∈ A', ∀ hi2 : i < A.length, x.card ≠ A[i].card := fun x hx _ => (List.pairwise_append.1 ((pm.pairwise_iff (fun h => Ne.symm h)).2 h.mp.nd)).2.2 x hx A[i] (by simp)
    have hb := q1.blk
    unfold bcs at hb
    refine ⟨hv, ⟨by show y.cell? _ = _; simp [World.cell?, hb], by show y.cell? _ = _; unfold rcs at hrec; simp [World.cell?, hrec]⟩, w5, hrun, _, av', A', ⟨⟨hcells _ _ _ _ q1.blk, rfl, hrow5 q1.row, fun j hj => hcells _ _ _ _ (q1.recs j hj), q1.apart, q1.low, q1.lowr, by rw [hsz5]; exact q1.bas, q1.len⟩, fun x hx => rb5 x (h.cma x (hsub x hx)) (rb_kt (M1.rb x (hsub x hx) (hdif x hx)) q2 (by decide) (by decide)), (List.pairwise_append.1 ((pm.pairwise_iff (fun h => Apart.symm h)).2 h.apart)).1, own5, fun x hx => h.cma x (hsub x hx), h.lowc, mp_del h.mp pm, h.cn⟩, pm, qo, ?_, ?_⟩
    · refine ((KC.of ((Below.refl _ w).drew)).trans (KC.kt q2 sK_H)).trans ?_
      exact ⟨(World.mapTurned.grown ht5).os, (World.mapTurned.grown ht5).tape, (World.mapTurned.grown ht5).output, (World.mapTurned.grown ht5).size, fun g cc t f hg _ => hcells g cc t f hg⟩
    · refine ((((Below.refl _ w).drew).mono h.hp.bas).trans q3).trans ?_
      exact ((Below.refl base y).drew).grown (World.mapTurned.grown ht5) q1.bas (fun j hj => by
        have : cm = j := by simpa using hj
        rw [← this]; exact h.lowc)
  unfold hv at HREM
  clear h M1 hsz
  generalize A[i].gr = GR at *
  go_enter Try.func28, Try.ntmps28
  go_wp2_with fail
  go_region_with ((go_at_call 41; refine HREM.out.mono ?_; rintro e y ⟨⟨rv, rfl⟩, ⟨k3, k0⟩, w5, hrun, HE⟩))
  all_goals (go_wp2_with fail)
  all_goals (go_region_with (fail))
  all_goals (go_wp2_with fail)
  all_goals go_end0
  all_goals exact ⟨rfl, HE.out⟩
theorem forget_any {w : World} {base b : Nat} {most now gv : Int} {cm cn : Nat} {D : DataW Value} {av : Value} {A : List Rc} (h : BkM w base b most now gv cm cn D av A) (i : Nat) (hi : i < A.length) (hsz : A[i].card.size ≤ 1000000) : Calls Try.prog 28 #[.pointer (some ⟨b, 0, none⟩), .pointer (some ⟨A[i].gr, 0, none⟩)] w fun e w' => e = .returned (.tuple #[]) ∧ PF w base b most now gv cm cn A A[i] w' := by
  refine (forget_x i (BkX.of h) hi hsz).mono ?_
  rintro e y ⟨rfl, D', av', A', k1, k2, k3, k4, k5⟩
  exact ⟨rfl, D', av', A', k1, k2, fun hA => k3 (hA.fix hi (fun _ _ => rfl)), k4, k5⟩
end Go.Proofs.Ytmaikkhemhonhaa.Dv
