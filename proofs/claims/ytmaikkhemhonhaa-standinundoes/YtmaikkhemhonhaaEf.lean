/- Undo of an approval of a card that has others. -/
import Derived.Test.YtmaikkhemhonhaaEe
import Derived.Test.YtmaikkhemhonhaaDy
namespace Go.Proofs.Ytmaikkhemhonhaa.Ef
set_option linter.unusedVariables false
set_option linter.unusedSimpArgs false
open Go.RowKit Go.Maps Lib0 Kb Xp Da Db Dc Dd De Df Dh Di Dj Dk Dl Dm Dn Dp Dq Dr Ds Dt Du Dv Dw Dy Dz Ea Eb Ec Ed Ee
attribute [local go_sem] Oper.semAt_some
def rmG : List Ga → ByteArray → Nat → List Ga
  | [], _, _ => []
  | g :: G, c, p => if g.1 = c then (match p with
      | 0 => G
      | p + 1 => g :: rmG G c p) else g :: rmG G c p
theorem rmG_same : ∀ (G : List Ga) (c : ByteArray) (p : Nat), lc (rmG G c p) c = (lc G c).eraseIdx p
  | [], c, p => by simp [rmG, lc]
  | g :: G, c, p => by
    unfold rmG
    by_cases e : g.1 = c
    · rw [if_pos e]
      have e1 : lc (g :: G) c = g.2 :: lc G c := by simp [lc, e]
      rw [e1]
      cases p with
      | zero => rfl
      | succ p =>
        have e2 : lc (g :: rmG G c p) c = g.2 :: lc (rmG G c p) c := by simp [lc, e]
        show lc (g :: rmG G c p) c = _
        rw [e2, rmG_same G c p]; rfl
    · rw [if_neg e]
      have e1 : lc (g :: G) c = lc G c := by simp [lc, e]
      have e2 : lc (g :: rmG G c p) c = lc (rmG G c p) c := by simp [lc, e]
      rw [e1, e2, rmG_same G c p]
theorem rmG_other : ∀ (G : List Ga) (c d : ByteArray) (p : Nat), d ≠ c → lc (rmG G c p) d = lc G d
  | [], c, d, p, h => by simp [rmG]
  | g :: G, c, d, p, h => by
    unfold rmG
    by_cases e : g.1 = c
    · rw [if_pos e]
      have e1 : lc (g :: G) d = lc G d := by simp [lc, e, Ne.symm h]
      rw [e1]
      cases p with
      | zero => rfl
      | succ p =>
        have e2 : lc (g :: rmG G c p) d = lc (rmG G c p) d := by simp [lc, e, Ne.symm h]
        show lc (g :: rmG G c p) d = _
        rw [e2, rmG_other G c d p h]
    · rw [if_neg e]
      have e3 : ∀ M : List Ga, lc (g :: M) d = if g.1 = d then g.2 :: lc M d else lc M d := fun M => by unfold lc; by_cases e4 : g.1 = d <;> simp [e4]
      rw [e3, e3, rmG_other G c d p h]
theorem rmG_sub : ∀ (G : List Ga) (c : ByteArray) (p : Nat), (rmG G c p).Sublist G
  | [], c, p => List.Sublist.refl _
  | g :: G, c, p => by
    unfold rmG
    split
    · cases p with
      | zero => exact List.sublist_cons_self _ _
      | succ p => exact (rmG_sub G c p).cons_cons _
    · exact (rmG_sub G c p).cons_cons _
def rmS (S : St) (c : ByteArray) (p : Nat) : St := { S with G := rmG S.G c p }
theorem gt_rm {A : List Rc} {G : List Ga} (h : Gt A G) (nd : A.Pairwise fun a c => a.card ≠ c.card) (i : Nat) (hi : i < A.length) {a : Rc} (p : Nat) (e1 : a.card = A[i].card) (e2 : a.L = A[i].L.eraseIdx p) (hne : a.L ≠ []) : Gt (A.set i a) (rmG G a.card p) := by
  have hl : (A.set i a).length = A.length := List.length_set
  have hmem : ∀ c ∈ A.set i a, c = a ∨ ∃ j, ∃ hj : j < A.length, j ≠ i ∧ c = A[j] := fun c hc => by
    obtain ⟨j, hj, rfl⟩ := List.getElem_of_mem hc
    rw [hl] at hj
    rw [List.getElem_set]
    split
    · exact .inl rfl
    · next e => exact .inr ⟨j, hj, fun e2 => e e2.symm, rfl⟩
  refine ⟨fun c hc => ?_, fun c hc => ?_, fun g hg => ?_, fun c hc => ?_⟩
  · rcases hmem c hc with rfl | ⟨j, hj, hne, rfl⟩
    · rw [rmG_same, e2, h.eq _ (List.getElem_mem hi), e1]
    · rw [rmG_other _ _ _ _ (by rw [e1]; exact at_pair (fun h => Ne.symm h) nd hj hi hne)]
      exact h.eq _ (List.getElem_mem hj)
  · rcases hmem c hc with rfl | ⟨j, hj, -, rfl⟩
    · exact hne
    · exact h.ne _ (List.getElem_mem hj)
  · obtain ⟨c, hc, e⟩ := h.all g ((rmG_sub G a.card p).subset hg)
    obtain ⟨j, hj, rfl⟩ := List.getElem_of_mem hc
    by_cases ej : i = j
    · subst ej; exact ⟨a, List.mem_set hi a, by rw [e1]; exact e⟩
    · exact ⟨A[j], by rw [List.mem_iff_getElem]; exact ⟨j, by rw [hl]; exact hj, by rw [List.getElem_set_ne ej]⟩, e⟩
  · rcases hmem c hc with rfl | ⟨j, hj, -, rfl⟩
    · rw [e1]; exact h.sz _ (List.getElem_mem hi)
    · exact h.sz _ (List.getElem_mem hj)
set_option maxRecDepth 100000 in
set_option maxHeartbeats 1600000 in
theorem settle_mid {w : World} {base b : Nat} {most now gv : Int} {cm cn : Nat} {D : DataW Value} {av : Value} {A : List Rc} (h : BkM w base b most now gv cm cn D av A) (i : Nat) (hi : i < A.length) : Calls Try.prog 30 #[.pointer (some ⟨b, 0, none⟩), .pointer (some ⟨A[i].gr, 0, none⟩)] w fun e w' => e = .returned (.tuple #[]) ∧ ∃ A', PU w.drew base b (bcs most now gv cm av) av A A' A.length w' ∧ (FixOk (kN A) A.length i → Hp (kN A') A.length) := by
  have M1 := h.below ((Below.refl _ w).drew)
  obtain ⟨-, c1, -⟩ := (h.rm hi).cells
  have c4 := (M1.rm hi).cells.2.2.2.2.1
  have hown := (h.rm hi).2.own
  have hs := (h.rm hi).2.one.size
  have HFIX : Hid (Calls Try.prog 38 #[hv b, .int .i64 (i : Int)] w.drew fun e w' => e = .returned (.tuple #[]) ∧ ∃ A', PU w.drew base b (bcs most now gv cm av) av A A' A.length w' ∧ (FixOk (kN A) A.length i → Hp (kN A') A.length)) := fix_any M1.hp i hi
  unfold hv at HFIX
  clear h M1
  generalize A[i].gr = GR at *
  go_enter Try.func30, Try.ntmps30
  go_wp2_with (first | (at_len; refine wpList_len_own _ rfl _ tM rfl tI tPS Try.underlying88 heldP _ _ _ rfl hown ?_; rw [hs]) | fail)
  go_region_with ((go_at_call 38; refine HFIX.out.mono ?_; rintro e x ⟨rfl, hx⟩; have HX : Hid _ := hx; clear hx))
  all_goals (go_wp2_with fail)
  all_goals go_end0
  all_goals exact ⟨rfl, HX.out⟩
set_option maxRecDepth 100000 in
set_option maxHeartbeats 1600000 in
theorem undo_mid {w : World} {base b : Nat} {S : St} {m : Nat} (h : Bk w base b S m) (c : ByteArray) (hc : c.size ≤ 1000000) (u t : Int) (p : Nat) (hp : Fst (lc S.G c) u t p) (h2 : 2 ≤ (lc S.G c).length) : Calls Try.prog 17 #[.pointer (some ⟨b, 0, none⟩), .string c, .int .i64 u, .int .i64 t] w fun e w' => e = .returned (.bool true) ∧ PB w base b (rmS S c p) m w' := by
  obtain ⟨cm, cn, D, av, A, h1, h2g, h3, h4, h5⟩ := h
  obtain ⟨x, hx⟩ := List.exists_mem_of_length_pos (show 0 < (lc S.G c).length by omega)
  obtain ⟨a, ha, hac⟩ := h2g.all _ (lc_mem hx)
  dsimp only at hac
  obtain ⟨i, hi, rfl⟩ := List.getElem_of_mem ha
  have hL : A[i].L = lc S.G c := by rw [h2g.eq _ ha, hac]
  have hcm : c.size ≤ maxLen := by unfold maxLen; omega
  have hlk := look_rec h1.cards h1.mp ha (by rw [hac]; exact hcm)
  rw [hac] at hlk
  unfold ptr at hlk
  obtain ⟨-, -, -, c3, -⟩ := h1.cells
  have hle : ((lc S.G c).eraseIdx p).length = (lc S.G c).length - 1 := by rw [List.length_eraseIdx, if_pos hp.lt]
  have hpos : 0 < lastN (A[i].L.eraseIdx p) := by
    rw [hL, lastN_get (by omega)]
    have hm : ((lc S.G c).eraseIdx p)[((lc S.G c).eraseIdx p).length - 1]'(by omega) ∈ lc S.G c := List.mem_of_mem_eraseIdx (List.getElem_mem _)
    have := (h5.nb _ (lc_mem hm)).1
    dsimp only at this
    omega
  have HTK : Hid (Calls Try.prog 29 #[.pointer (some ⟨A[i].gr, 0, none⟩), .int .i64 u, .int .i64 t] w fun e w' => e = .returned (.bool true) ∧ Hid (Calls Try.prog 30 #[.pointer (some ⟨b, 0, none⟩), .pointer (some ⟨A[i].gr, 0, none⟩)] w' fun e z => e = .returned (.tuple #[]) ∧ PB w base b (rmS S c p) m z)) := by
    refine (takeOutR_mid (h1.rm hi) h1.hp.bas u t p (by rw [hL]; exact hp) (by rw [hL]; exact h2) hpos).mono ?_
    rintro e y ⟨rfl, a', e1, e2, e3, e4, e5, r2, r1, r3⟩
    have M3 := bkm_rec h1 i hi r1 e1 e2 e3 e4 r2 r3
    have hne : a'.L ≠ [] := fun e => by
      have := congrArg List.length e5
      rw [e, hL, hle] at this
      simp at this
      omega
    have G3 : Gt (A.set i a') (rmS S c p).G := by
      have := gt_rm h2g h1.mp.nd i hi (a := a') p e1 e5 hne
      rw [e1, hac] at this
      exact this
    have F3 : FixOk (kN (A.set i a')) A.length i := hp_fix2 h3 hi (fun m _ hm => kN_set hm)
    have K3 : KC w y := KC.kt (kt_r r3 (h1.rm hi)) sK_R
    have b3 : Below base w y := ⟨r3.os, r3.tape, r3.output, r3.size, fun k hk => r3.block k (by have := h1.hp.bas; omega) (fun hO => by
      have hb := h1.rb _ ha
      rcases hO with hO | hO | hO
      · have := hb.lowr; omega
      · have := hb.sh.low; omega
      · have := (hb.sh.row.lt k hO).1; omega)⟩
    have hl' : (A.set i a').length = A.length := List.length_set
    have hgr : ((A.set i a')[i]'(by omega)).gr = A[i].gr := by rw [List.getElem_set_self]; exact e2
    have hse := settle_mid M3 i (by omega)
    rw [hgr] at hse
    refine ⟨rfl, hse.mono ?_⟩
    rintro e z ⟨rfl, A'', pu, ho⟩
    refine ⟨rfl, ⟨cm, cn, D, av, A'', bkm_order (M3.below ((Below.refl _ y).drew)) pu.ph.1 pu.perm pu.ph.2.1, gt_perm G3 pu.perm, ?_, pu.len.trans (hl'.trans h4), iv_sub h5 (rmG_sub _ _ _)⟩, K3.trans ((KC.of ((Below.refl _ y).drew)).trans (KC.kt pu.ph.2.1 sK_H)), b3.trans ((((Below.refl _ y).drew).mono M3.hp.bas).trans pu.ph.2.2)⟩
    rw [pu.len]
    exact ho (by rw [hl']; exact F3)
  generalize A[i].gr = GR at *
  clear h1 h2g h3 h4 h5 hp h2 hx ha hac hL hcm hle hpos hc
  go_enter Try.func17, Try.ntmps17
  go_wp2_with fail
  refine HTK.out.mono ?_
  rintro e y ⟨rfl, HS⟩
  go_wp2_with fail
  refine HS.out.mono ?_
  rintro e z ⟨rfl, hz⟩
  go_wp2_with fail
  go_ret
  exact ⟨rfl, hz⟩
end Go.Proofs.Ytmaikkhemhonhaa.Ef
