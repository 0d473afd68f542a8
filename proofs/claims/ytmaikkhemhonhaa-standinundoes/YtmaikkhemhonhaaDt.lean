/- give: of a card that is remembered. -/
import Derived.Test.YtmaikkhemhonhaaDs
namespace Go.Proofs.Ytmaikkhemhonhaa.Dt
set_option linter.unusedVariables false
set_option linter.unusedSimpArgs false
open Go.RowKit Go.Maps Lib0 Kb Xp Da Db Dc Dd De Df Dh Di Dj Dk Dl Dm Dn Dp Dq Dr Ds
attribute [local go_sem] Oper.semAt_some
def sK (t : TypeId) : Bool := t == tB || t == tR || t == tS || t == tA || t == tP
/-- what stays: cells of other types than a book's -/
structure KC (w w' : World) : Prop where
  os : w'.os = w.os
  tape : w'.tape = w.tape
  output : w'.output = w.output
  size : w.heap.size ≤ w'.heap.size
  block : ∀ (g : Nat) (c : Array Value) (t : TypeId) (fr : Nat × Nat), w.heap[g]? = some (.cells c t fr) → sK t = false → w'.heap[g]? = some (.cells c t fr)
theorem KC.of {w x : World} (h : Below w.heap.size w x) : KC w x := ⟨h.os, h.tape, h.output, h.size, fun g c t fr hg _ => (h.block g (Array.getElem?_eq_some_iff.1 hg).1).trans hg⟩
theorem KC.refl (w : World) : KC w w := ⟨rfl, rfl, rfl, Nat.le_refl _, fun _ _ _ _ h _ => h⟩
theorem KC.trans {w x y : World} (h : KC w x) (k : KC x y) : KC w y := ⟨k.os.trans h.os, k.tape.trans h.tape, k.output.trans h.output, Nat.le_trans h.size k.size, fun g c t fr hg ht => k.block g c t fr (h.block g c t fr hg ht) ht⟩
theorem KC.kt {S : TypeId → Bool} {w x : World} (h : KT S w x) (hs : ∀ t, sK t = false → S t = false) : KC w x := ⟨h.os, h.tape, h.output, h.size, fun g c t fr hg ht => h.cells hg (hs t ht)⟩
theorem KC.row {w x : World} (h : KC w x) {base n size : Nat} {t : TypeId} {v : Value} {xs : List Value} (ho : w.ownsRow base t size v n xs) (ht : sK t = false) : x.ownsRow base t size v n xs := own_keep ho fun g hg => by
  obtain ⟨c, hc⟩ := own_ty ho hg
  exact (h.block g _ _ _ hc ht).trans hc.symm
theorem sK_H (t : TypeId) (h : sK t = false) : sH t = false := by
  simp only [sK, sH, Bool.or_eq_false_iff] at h ⊢
  exact ⟨⟨h.2, h.1.1.1.2⟩, h.1.1.1.1⟩
theorem sK_R (t : TypeId) (h : sK t = false) : sR t = false := by
  simp only [sK, sR, Bool.or_eq_false_iff] at h ⊢
  exact ⟨⟨h.1.1.1.2, h.1.1.2⟩, h.1.2⟩
theorem sK_B (t : TypeId) (h : sK t = false) : (t == tB) = false := by
  simp only [sK, Bool.or_eq_false_iff] at h
  exact h.1.1.1.1
/-- what became of a book -/
def PB (w : World) (base b : Nat) (S : St) (m : Nat) (y : World) : Prop := Bk y base b S m ∧ KC w y ∧ Below base w y
theorem rise_len : ∀ (l : List Int) (lo hi : Int), l.Pairwise (fun x y => x < y) → (∀ x ∈ l, lo ≤ x ∧ x ≤ hi) → lo ≤ hi + 1 → (l.length : Int) ≤ hi + 1 - lo
  | [], lo, hi, _, _, h => by simp; omega
  | a :: l, lo, hi, hp, hb, h => by
    have h1 := List.pairwise_cons.1 hp
    have h2 := hb a (by simp)
    have := rise_len l (a + 1) hi h1.2 (fun x hx => ⟨by have := h1.1 x hx; omega, (hb x (by simp [hx])).2⟩) (by omega)
    simp only [List.length_cons]
    omega
theorem iv_len {S : St} (h : Iv S) : (S.G.length : Int) ≤ S.gv := by
  have := rise_len (S.G.map fun g => g.2.1) 1 S.gv (List.pairwise_map.2 h.nu) (fun x hx => by
    obtain ⟨g, hg, rfl⟩ := List.mem_map.1 hx
    exact h.nb g hg) (by have := h.g0; omega)
  rw [List.length_map] at this
  omega
theorem lc_len (G : List Ga) (c : ByteArray) : (lc G c).length ≤ G.length := by unfold lc; rw [List.length_map]; exact List.length_filter_le _ _
theorem lc_mem {G : List Ga} {c : ByteArray} {x : Ap} (h : x ∈ lc G c) : (c, x) ∈ G := by
  unfold lc at h
  obtain ⟨g, hg, rfl⟩ := List.mem_map.1 h
  have h1 := List.mem_filter.1 hg
  have h2 := of_decide_eq_true h1.2
  rw [← h2]; exact h1.1
theorem lc_snoc (G : List Ga) (c : ByteArray) (x : Ap) : lc (G ++ [(c, x)]) c = lc G c ++ [x] := by simp [lc]
theorem lc_other (G : List Ga) (c d : ByteArray) (x : Ap) (h : c ≠ d) : lc (G ++ [(c, x)]) d = lc G d := by simp [lc, h]
theorem lc_pw {R : Ga → Ga → Prop} {T : Ap → Ap → Prop} {G : List Ga} (h : G.Pairwise R) (hi : ∀ x y, R x y → T x.2 y.2) (c : ByteArray) : (lc G c).Pairwise T := by
  unfold lc
  rw [List.pairwise_map]
  exact (h.filter _).imp (fun {x y} => hi x y)
theorem iv_up {S : St} (h : Iv S) (c : ByteArray) : Up (lc S.G c) := lc_pw h.up (fun _ _ h => h) c
theorem iv_am {S : St} (h : Iv S) (c : ByteArray) : Am (lc S.G c) := fun x hx => by
  have hm := lc_mem hx
  have h1 := h.am _ hm
  have h2 := h.tk _ hm
  have h3 := h.nb _ hm
  have := h.n1
  have := h.g1
  dsimp only at h1 h2 h3
  exact ⟨h1.1, h1.2, ⟨by omega, by omega⟩, ⟨by omega, by omega⟩⟩
def giveS (S : St) (c : ByteArray) (u : Int) : St := { S with gv := S.gv + 1, G := S.G ++ [(c, (S.gv + 1, u, S.now))] }
theorem iv_give {S : St} (h : Iv S) (c : ByteArray) (u : Int) (hu : 0 ≤ u ∧ u ≤ 999999999999) (hg : S.gv < 900) : Iv (giveS S c u) := by
  obtain ⟨a1, a2, a3, a4, a5, a6, a7, a8, a9, a10, a11⟩ := h
  refine ⟨a1, a2, a3, a4, ?_, ?_, fun g hg => ?_, ?_, fun g hg => ?_, ?_, fun g hg => ?_⟩
  · show 0 ≤ S.gv + 1; omega
  · show S.gv + 1 ≤ 900; omega
  · rcases List.mem_append.1 hg with hg | hg
    · exact a7 g hg
    · rw [List.mem_singleton.1 hg]; exact ⟨a3, Int.le_refl _⟩
  · show (S.G ++ _).Pairwise _
    rw [List.pairwise_append]
    exact ⟨a8, List.pairwise_singleton _ _, fun x hx y hy => by rw [List.mem_singleton.1 hy]; exact (a7 x hx).2⟩
  · rcases List.mem_append.1 hg with hg | hg
    · exact a9 g hg
    · rw [List.mem_singleton.1 hg]; exact hu
  · show (S.G ++ _).Pairwise _
    rw [List.pairwise_append]
    exact ⟨a10, List.pairwise_singleton _ _, fun x hx y hy => by rw [List.mem_singleton.1 hy]; have := (a11 x hx).2; show _ < S.gv + 1; omega⟩
  · rcases List.mem_append.1 hg with hg | hg
    · have := a11 g hg; exact ⟨this.1, by show _ ≤ S.gv + 1; omega⟩
    · rw [List.mem_singleton.1 hg]; exact ⟨by show 1 ≤ S.gv + 1; omega, Int.le_refl _⟩
theorem gt_perm {A B : List Rc} {G : List Ga} (h : Gt A G) (p : B.Perm A) : Gt B G := ⟨fun a ha => h.eq a (p.mem_iff.1 ha), fun a ha => h.ne a (p.mem_iff.1 ha), fun g hg => by
  obtain ⟨a, ha, e⟩ := h.all g hg
  exact ⟨a, p.mem_iff.2 ha, e⟩, fun a ha => h.sz a (p.mem_iff.1 ha)⟩
theorem gt_add {A : List Rc} {G : List Ga} (h : Gt A G) (nd : A.Pairwise fun a c => a.card ≠ c.card) (i : Nat) (hi : i < A.length) {a : Rc} (x : Ap) (e1 : a.card = A[i].card) (e2 : a.L = A[i].L ++ [x]) : Gt (A.set i a) (G ++ [(a.card, x)]) := by
  have hl : (A.set i a).length = A.length := List.length_set
  have hmem : ∀ c ∈ A.set i a, c = a ∨ ∃ j, ∃ hj : j < A.length, j ≠ i ∧ c = A[j] := fun c hc => by
    obtain ⟨j, hj, rfl⟩ := List.getElem_of_mem hc
    rw [hl] at hj
    rw [List.getElem_set]
    split
    · exact .inl rfl
    · next e => exact .inr ⟨j, hj, fun e2 => e e2.symm, rfl⟩
  refine ⟨fun c hc => ?_, fun c hc => ?_, fun g hg => ?_, fun c hc => ?_⟩
  · rcases hmem c hc with rfl | ⟨j, hj, hne, rfl⟩
    · rw [lc_snoc, e2, h.eq _ (List.getElem_mem hi), e1]
    · rw [lc_other _ _ _ _ (by rw [e1]; exact at_pair (fun h => Ne.symm h) nd hi hj (Ne.symm hne))]
      exact h.eq _ (List.getElem_mem hj)
  · rcases hmem c hc with rfl | ⟨j, hj, hne, rfl⟩
    · rw [e2]; simp
    · exact h.ne _ (List.getElem_mem hj)
  · rcases List.mem_append.1 hg with hg | hg
    · obtain ⟨c, hc, e⟩ := h.all g hg
      obtain ⟨j, hj, rfl⟩ := List.getElem_of_mem hc
      by_cases ej : i = j
      · subst ej; exact ⟨a, List.mem_set hi a, by rw [e1]; exact e⟩
      · exact ⟨A[j], by rw [List.mem_iff_getElem]; exact ⟨j, by rw [hl]; exact hj, by rw [List.getElem_set_ne ej]⟩, e⟩
    · rw [List.mem_singleton.1 hg]; exact ⟨a, List.mem_set hi a, rfl⟩
  · rcases hmem c hc with rfl | ⟨j, hj, hne, rfl⟩
    · rw [e1]; exact h.sz _ (List.getElem_mem hi)
    · exact h.sz _ (List.getElem_mem hj)
theorem kN_set {A : List Rc} {i m : Nat} {a : Rc} (h : m ≠ i) : kN (A.set i a) m = kN A m := by unfold kN; rw [List.getElem?_set_ne (Ne.symm h)]
set_option maxRecDepth 100000 in
set_option maxHeartbeats 3200000 in
theorem give_old {w : World} {base b : Nat} {S : St} {m : Nat} (h : Bk w base b S m) (c : ByteArray) (hc : c.size ≤ 1000000) (u : Int) (hu : 0 ≤ u ∧ u ≤ 999999999999) (hg : S.gv < 900) (hex : ∃ g ∈ S.G, g.1 = c) : Calls Try.prog 27 #[.pointer (some ⟨b, 0, none⟩), .string c, .int .i64 u, .int .i64 S.now] w fun e w' => e = .returned (.tuple #[]) ∧ PB w base b (giveS S c u) m w' := by
  obtain ⟨cm, cn, D, av, A, h1, h2, h3, h4, h5⟩ := h
  obtain ⟨g, hgG, hgc⟩ := hex
  obtain ⟨a, ha, hac⟩ := h2.all g hgG
  obtain ⟨i, hi, rfl⟩ := List.getElem_of_mem ha
  have hcard : A[i].card = c := hac.trans hgc
  have hlow := h1.hp.low
  have hbas := h1.hp.bas
  obtain ⟨-, c1, c2, c3, -, fz⟩ := h1.cells
  obtain ⟨w1, hw1⟩ : ∃ w1, w.setCell ⟨b, 2, none⟩ (.int .i64 (S.gv + 1)) = w1 := ⟨_, rfl⟩
  have M1 : BkM w1 base b S.most S.now (S.gv + 1) cm cn D av A := hw1 ▸ bkm_set h1 (most' := S.most) (now' := S.now) (gv' := S.gv + 1) rfl (by have := h1.cn; have := h5.g0; omega)
  have K1 : KC w w1 := hw1 ▸ KC.kt (KT.set (S := fun t => t == tB) h1.hp.blk (by decide) _) sK_B
  have B1 : Below base w w1 := hw1 ▸ (Below.refl base w).setCell hlow _
  obtain ⟨w2, hw2⟩ : ∃ w2, w1.alloc (.cells #[.int .i64 (S.gv + 1), .int .i64 u, .int .i64 S.now] tA) = w2 := ⟨_, rfl⟩
  have B2 : Below w1.heap.size w1 w2 := hw2 ▸ below_one _ _
  have HW2 : w2.heap[w1.heap.size]? = some (.cells #[.int .i64 (S.gv + 1), .int .i64 u, .int .i64 S.now] tA) := hw2 ▸ h1_0 _ _
  have M2 := M1.below B2
  have hcm : c.size ≤ maxLen := by unfold maxLen; omega
  have hlk := look_rec M2.cards M2.mp ha (by rw [hcard]; exact hcm)
  rw [hcard] at hlk
  have hL : A[i].L = lc S.G c := by rw [h2.eq _ ha, hcard]
  have iv' := iv_give h5 c u hu hg
  have hul : Up (A[i].L ++ [(S.gv + 1, u, S.now)]) := by rw [hL, ← lc_snoc]; exact iv_up iv' c
  have haml : Am (A[i].L ++ [(S.gv + 1, u, S.now)]) := by rw [hL, ← lc_snoc]; exact iv_am iv' c
  have hlen : A[i].L.length < 999 := by rw [hL]; have := lc_len S.G c; have := iv_len h5; have := h5.g1; omega
  have HADD : Hid (Calls Try.prog 37 #[.pointer (some ⟨A[i].gr, 0, none⟩), apv (S.gv + 1, u, S.now)] w2 fun e w' => e = .returned (.tuple #[]) ∧ PostA w2 base A[i] (S.gv + 1, u, S.now) i w') := addR_old (M2.rm hi) (by have := M1.hp.bas; have := B2.size; omega) _ hlen hul haml
  have HFIX : Hid (∀ y, PostA w2 base A[i] (S.gv + 1, u, S.now) i y → y.drew.cell? ⟨A[i].gr, 4, none⟩ = some (.int .i64 (i : Int)) ∧ Calls Try.prog 38 #[hv b, .int .i64 (i : Int)] y.drew fun e w' => e = .returned (.tuple #[]) ∧ Hid (PB w base b (giveS S c u) m w')) := fun y hy => by
    obtain ⟨v', r1, r2, r3⟩ := hy
    obtain ⟨a', e1, e2, e3, e4, e5, r2, r1⟩ : ∃ a' : Rc, a'.card = A[i].card ∧ a'.gr = A[i].gr ∧ a'.gm = A[i].gm ∧ a'.gs = A[i].gs ∧ a'.L = A[i].L ++ [(S.gv + 1, u, S.now)] ∧ Nw A[i].rv a'.rv w2.heap.size ∧ RM y base a' i := ⟨_, rfl, rfl, rfl, rfl, rfl, r2, r1⟩
    have M3 := bkm_rec M2 i hi r1 e1 e2 e3 e4 r2 r3
    have G3 : Gt (A.set i a') (giveS S c u).G := by
      have := gt_add h2 h1.mp.nd i hi (a := a') (S.gv + 1, u, S.now) e1 e5
      rw [e1, hcard] at this
      exact this
    have F3 : FixOk (kN (A.set i a')) A.length i := hp_fix2 h3 hi (fun m _ hm => kN_set hm)
    have K3 : KC w2 y := KC.kt (kt_r r3 (M2.rm hi)) sK_R
    have b3 : Below base w2 y := ⟨r3.os, r3.tape, r3.output, r3.size, fun k hk => r3.block k (by have := M2.hp.bas; omega) (fun hO => by
      have hb := M2.rb _ ha
      rcases hO with hO | hO | hO
      · have := hb.lowr; omega
      · have := hb.sh.low; omega
      · have := (hb.sh.row.lt k hO).1; omega)⟩
    generalize hA' : A.set i a' = A' at *
    have hl' : A'.length = A.length := by rw [← hA']; exact List.length_set
    have M4 := M3.below ((Below.refl _ y).drew)
    refine ⟨?_, (fix_any M4.hp i (by omega)).mono ?_⟩
    · have := r1.1
      rw [e2] at this
      unfold rcs at this
      show y.cell? _ = _
      simp [World.cell?, this]
    · rintro e z ⟨rfl, A'', pu, ho⟩
      refine ⟨rfl, ⟨cm, cn, D, av, A'', bkm_order M4 pu.ph.1 pu.perm pu.ph.2.1, gt_perm G3 pu.perm, ?_, pu.len.trans (hl'.trans h4), iv'⟩, ?_, ?_⟩
      · rw [pu.len]; exact ho (by rw [hl']; exact F3)
      · exact (K1.trans (KC.of B2)).trans (K3.trans ((KC.of ((Below.refl _ y).drew)).trans (KC.kt pu.ph.2.1 sK_H)))
      · exact (B1.trans (B2.mono M1.hp.bas)).trans (b3.trans ((((Below.refl _ y).drew).mono M3.hp.bas).trans pu.ph.2.2))
  have d2 : w1.cell? ⟨b, 2, none⟩ = some (.int .i64 (S.gv + 1)) := M1.cells.2.2.1
  have d3 : w2.cell? ⟨b, 3, none⟩ = some (.map (some cm)) := M2.cells.2.2.2.1
  have e0 : w2.cell? ⟨w1.heap.size, 0, none⟩ = some (.int .i64 (S.gv + 1)) := by simp [World.cell?, HW2]
  have e1 : w2.cell? ⟨w1.heap.size, 1, none⟩ = some (.int .i64 u) := by simp [World.cell?, HW2]
  have e2 : w2.cell? ⟨w1.heap.size, 2, none⟩ = some (.int .i64 S.now) := by simp [World.cell?, HW2]
  have f2 := fz 2
  have q1 : S.gv + 1 ≤ 9223372036854775807 := by have := h5.g1; omega
  have q2 : -9223372036854775808 ≤ S.gv + 1 := by have := h5.g0; omega
  unfold apv at HADD
  unfold hv at HFIX
  unfold ptr at hlk
  generalize A[i].gr = GR at *
  generalize S.now = NOW at *
  generalize S.gv = GV at *
  dsimp only at HADD
  clear h1 h2 h3 h4 h5 M1 K1 B1 B2 HW2 M2 iv' hul haml hlen hL hgc hac hgG hcard ha hcm fz hu hg hlow hbas
  go_enter Try.func27, Try.ntmps27
  go_wp2_with fail
  refine HADD.out.mono ?_
  rintro e y ⟨rfl, hy⟩
  obtain ⟨k4, hfx⟩ := HFIX.out y hy
  have HFX : Hid (Calls Try.prog 38 #[.iface 87 (.pointer (some ⟨b, 4, none⟩)), .int .i64 (i : Int)] y.drew fun e w' => e = .returned (.tuple #[]) ∧ Hid (PB w base b (giveS S c u) m w')) := hfx
  clear hy hfx
  go_wp2_with fail
  go_region_with ((go_at_call 38; refine HFX.out.mono ?_; rintro e x ⟨rfl, HE⟩))
  all_goals (go_wp2_with fail)
  all_goals (refine bodyPost_ret (results_none rfl _ _ _) rfl ?_)
  all_goals exact ⟨rfl, HE.out⟩
end Go.Proofs.Ytmaikkhemhonhaa.Dt
