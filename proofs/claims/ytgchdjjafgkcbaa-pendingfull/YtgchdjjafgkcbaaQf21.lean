import Derived.Test.YtgchdjjafgkcbaaQf20
/- Tick, plain: before and behind the second loop. -/
namespace Go.Proofs.Ytgchdjjafgkcbaa.Pq
set_option linter.unusedVariables false
set_option linter.unusedSimpArgs false
open Go.RowKit Go.Maps Lib0 Kb Xp Za Ze Ih Fh Hh Pa Pb Pc Pe Pf Pg Pl Pm Pn Po
attribute [local irreducible] Pb.nl Pb.kl
theorem split_perm {α : Type} (p : α → Bool) : ∀ L : List α, (L.filter p ++ L.filter (fun x => !p x)).Perm L
  | [] => List.Perm.nil
  | x :: L => by
    have ih := split_perm p L
    cases e : p x with
    | true =>
      rw [List.filter_cons_of_pos (by simp [e]), List.filter_cons_of_neg (by simp [e])]
      exact ih.cons x
    | false =>
      rw [List.filter_cons_of_neg (by simp [e]), List.filter_cons_of_pos (by simp [e])]
      exact List.perm_middle.trans (ih.cons x)
section
variable {C : Cf} {S : St}
def F0 (S : St) : List XQ := S.LW.filter (dueX S.now)
def W0 (S : St) : List XQ := S.LW.filter (fun x => !dueX S.now x)
def E0 (S : St) : List XQ := S.LR.filter (dueX S.now)
def R0 (S : St) : List XQ := S.LR.filter (fun x => !dueX S.now x)
def P0 (S : St) : Pu := ⟨R0 S, S.lr, S.old, (E0 S).map (·.2.2.2)⟩
def Pi_ (C : Cf) (S : St) (i : Nat) : Pu := ((F0 S).take i).foldl (push C (S.now + 1)) (P0 S)
theorem pi_zero : Pi_ C S 0 = P0 S := rfl
theorem pi_all : Pi_ C S (F0 S).length = tickP C S := by unfold Pi_; rw [List.take_length]; rfl
theorem pi_succ {i : Nat} (h : i < (F0 S).length) : Pi_ C S (i + 1) = push C (S.now + 1) (Pi_ C S i) (F0 S)[i] := by
  unfold Pi_
  rw [List.take_succ_eq_append_getElem h, List.foldl_append]; rfl
theorem nd_sym {L M : List XQ} (h : L.Perm M) (k : M.Pairwise fun x y => nl x.2.2.2 ≠ nl y.2.2.2) : L.Pairwise fun x y => nl x.2.2.2 ≠ nl y.2.2.2 := (List.Perm.pairwise_iff (R := fun x y : XQ => nl x.2.2.2 ≠ nl y.2.2.2) (fun {a b} h => Ne.symm h) h).2 k
theorem kd_sym {L M : List XQ} (h : L.Perm M) (k : M.Pairwise fun x y => kl x.2.2.2 ≠ kl y.2.2.2) : L.Pairwise fun x y => kl x.2.2.2 ≠ kl y.2.2.2 := (List.Perm.pairwise_iff (R := fun x y : XQ => kl x.2.2.2 ≠ kl y.2.2.2) (fun {a b} h => Ne.symm h) h).2 k
theorem ip0 (h : Iv C S) (hn : S.now + 1 ≤ 1000000) : Ip C (S.now + 1) (F0 S ++ W0 S) (P0 S) := by
  have hp : (F0 S ++ W0 S).Perm S.LW := split_perm _ _
  refine ⟨?_, fun x hx => ?_, ?_, kd_sym hp h.kd, ?_, h.old0, fun x hx => h.old1 x (List.mem_filter.1 hx).1, h.old2⟩
  · have := Th.Ok.tick h.okr (by omega)
    rwa [filter_tx2] at this
  · rcases List.mem_append.1 hx with hx | hx
    · exact h.ro x (List.mem_append.2 (.inl (hp.mem_iff.1 hx)))
    · exact h.ro x (List.mem_append.2 (.inr (List.mem_filter.1 hx).1))
  · exact (nd_sym (hp.append_right S.LR) h.nd).sublist (List.Sublist.append_left List.filter_sublist _)
  · have h1 : (R0 S).length ≤ S.LR.length := List.length_filter_le _ _
    have := h.lenr
    show ((R0 S).length : Int) ≤ _
    omega
theorem pi_lr (i : Nat) : i ≤ (F0 S).length → (Pi_ C S i).lr = S.lr + i := by
  induction i with
  | zero => intro _; show S.lr = _; simp
  | succ i ih =>
    intro hi
    rw [pi_succ (by omega)]
    have e := ih (by omega)
    unfold push
    split
    · next e2 => simp at e2
    · split
      · show (Pi_ C S i).lr + 1 = _; rw [e]; push_cast; omega
      · show (Pi_ C S i).lr + 1 = _; rw [e]; push_cast; omega
theorem pi_gone (i : Nat) : i ≤ (F0 S).length → (Pi_ C S i).gone.length ≤ S.LR.length + i := by
  induction i with
  | zero =>
    intro _
    show ((E0 S).map _).length ≤ _
    rw [List.length_map]
    exact List.length_filter_le _ _
  | succ i ih =>
    intro hi
    rw [pi_succ (by omega)]
    have e := ih (by omega)
    unfold push
    split
    · omega
    · split
      · show ((Pi_ C S i).gone ++ [_]).length ≤ _
        rw [List.length_append, List.length_singleton]; omega
      · show (Pi_ C S i).gone.length ≤ _; omega
theorem ip_i (h : Iv C S) (co : Co C) (hn : S.now + 1 ≤ 1000000) (hl : S.lr + (S.LW.length : Int) ≤ 1000000) (i : Nat) : i ≤ (F0 S).length → Ip C (S.now + 1) ((F0 S).drop i ++ W0 S) (Pi_ C S i) := by
  induction i with
  | zero => intro _; exact ip0 h hn
  | succ i ih =>
    intro hi
    have hlt : i < (F0 S).length := by omega
    have h1 := ih (by omega)
    rw [List.drop_eq_getElem_cons hlt, List.cons_append] at h1
    have hlr : (Pi_ C S i).lr + 1 ≤ 1000000 := by
      rw [pi_lr i (by omega)]
      have : (F0 S).length ≤ S.LW.length := List.length_filter_le _ _
      omega
    rw [pi_succ hlt]
    by_cases hm : C.most < ((Pi_ C S i).LR.length : Int) + 1
    · obtain ⟨y, L, e⟩ : ∃ y L, (Pi_ C S i).LR ++ [xr (Pi_ C S i) C (S.now + 1) (F0 S)[i]] = y :: L := by
        cases e : (Pi_ C S i).LR ++ [xr (Pi_ C S i) C (S.now + 1) (F0 S)[i]] with
        | nil => simp at e
        | cons y L => exact ⟨y, L, rfl⟩
      rw [push_drop hm e]
      exact h1.drop co hlr e
    · rw [push_keep hm]
      exact h1.keep co hlr hm
theorem iv_tick (h : Iv C S) (co : Co C) (hn : S.now + 1 ≤ 1000000) (hl : S.lr + (S.LW.length : Int) ≤ 1000000) : Iv C (tickS C S) := by
  have k := ip_i h co hn hl (F0 S).length (Nat.le_refl _)
  rw [List.drop_length, List.nil_append, pi_all] at k
  refine ⟨?_, k.okr, k.ro, k.nd, k.kd, ?_, k.lenr, k.old0, k.old1, k.old2⟩
  · have := Th.Ok.tick h.okw (by omega)
    rwa [filter_tx2] at this
  · have h1 : (W0 S).length ≤ S.LW.length := List.length_filter_le _ _
    have := h.lenw
    show ((W0 S).length : Int) ≤ _
    omega
theorem kp0 (q : Rq) : KPs S.LW q ↔ KPs (F0 S ++ W0 S) q := by
  have hp : (F0 S ++ W0 S).Perm S.LW := split_perm _ _
  constructor
  · rintro ⟨x, hx, e⟩; exact ⟨x, hp.mem_iff.2 hx, e⟩
  · rintro ⟨x, hx, e⟩; exact ⟨x, hp.mem_iff.1 hx, e⟩
theorem hp0 (h : Iv C S) (k : Nat) (q : Rq) : (HPs (S.LW ++ S.LR) k q ∧ ∀ x ∈ E0 S, nl q ≠ nl x.2.2.2) ↔ HPs ((F0 S ++ W0 S) ++ R0 S) k q := by
  have hp : (F0 S ++ W0 S).Perm S.LW := split_perm _ _
  have hq : (E0 S ++ R0 S).Perm S.LR := split_perm _ _
  have hnd : (S.LW ++ (E0 S ++ R0 S)).Pairwise fun x y => nl x.2.2.2 ≠ nl y.2.2.2 := nd_sym (hq.append_left S.LW) h.nd
  rw [List.pairwise_append, List.pairwise_append] at hnd
  constructor
  · rintro ⟨⟨x, hx, e1, e2⟩, h2⟩
    rcases List.mem_append.1 hx with hx | hx
    · exact ⟨x, List.mem_append.2 (.inl (hp.mem_iff.2 hx)), e1, e2⟩
    · rcases List.mem_append.1 (hq.mem_iff.2 hx) with hx | hx
      · exact absurd (by rw [e2]) (h2 x hx)
      · exact ⟨x, List.mem_append.2 (.inr hx), e1, e2⟩
  · rintro ⟨x, hx, e1, e2⟩
    rcases List.mem_append.1 hx with hx | hx
    · have hx2 := hp.mem_iff.1 hx
      exact ⟨⟨x, List.mem_append.2 (.inl hx2), e1, e2⟩, fun z hz => by rw [← e2]; exact hnd.2.2 x hx2 z (List.mem_append.2 (.inl hz))⟩
    · exact ⟨⟨x, List.mem_append.2 (.inr (List.mem_filter.1 hx).1), e1, e2⟩, fun z hz => by rw [← e2]; exact (hnd.2.1.2.2 z hz x hx).symm⟩
theorem hd_same {w : World} {base g : Nat} {r q : Rq} {t u : Int} {l m : Bool} (h : Hd w base g r t l) (k : Hd w base g q u m) : nl r = nl q := by
  obtain ⟨-, v1, v2, h1, -⟩ := h
  obtain ⟨-, w1, w2, k1, -⟩ := k
  rw [h1] at k1
  have e : hcs r v1 v2 t l = hcs q w1 w2 u m := by injection k1 with k1; injection k1
  have e1 : r.to_ = q.to_ := by
    have := congrArg (fun a => a[6]?) e
    simpa [hcs] using this
  have e2 : r.no = q.no := by
    have := congrArg (fun a => a[7]?) e
    simpa [hcs] using this
  unfold nl
  rw [e1, e2]
theorem zs_ne {w wr : World} {base b wb rb kb hb ck ch : Nat} {C : Cf} {now lw : Int} {XW : LT} {KL Q R : List XQ} {lr old : Int} {ls gs : List Rq} {lv gv : Value} {F : List XQ} {v : Value} {x : XQ} (h : Zs w wr base b wb rb kb hb ck ch C now lw XW KL (x :: Q) R lr old ls gs lv gv F v) (hn : (x :: Q ++ R).Pairwise fun x y => nl x.2.2.2 ≠ nl y.2.2.2) : ∀ z ∈ Q ++ R, z.2.2.1 ≠ x.2.2.1 := by
  intro z hz e
  rw [List.cons_append, List.pairwise_cons] at hn
  have hx := h.hq x (List.mem_cons_self ..)
  refine hn.1 z hz ?_
  rcases List.mem_append.1 hz with hz | hz
  · have hzz := h.hq z (List.mem_cons_of_mem _ hz)
    rw [e] at hzz
    exact hd_same hx hzz
  · have hzz := h.hr z hz
    rw [e] at hzz
    exact hd_same hx hzz
end
end Go.Proofs.Ytgchdjjafgkcbaa.Pq
/- stop; Answer. -/
namespace Go.Proofs.Ytgchdjjafgkcbaa.Pv
set_option linter.unusedVariables false
set_option linter.unusedSimpArgs false
open Go.RowKit Go.Maps Lib0 Kb Xp Za Ze Ih Fh Hh Pa Pb Pc Pe Pf Pg
attribute [local go_sem] Oper.semAt_some
attribute [local irreducible] Pb.nl Pb.kl
section
variable {w : World} {base b wb rb kb hb : Nat} {Bw Br : Nat → Prop} {ck ch : Nat} {Dk Dh : DataW Value} {C : Cf} {old : Int} {XW XR : LT} {nw nr lw lr : Int}
set_option maxRecDepth 100000 in
set_option maxHeartbeats 1600000 in
theorem stop_wait (h : Tm w base b wb rb kb hb Bw Br ck ch Dk Dh C old XW XR nw nr lw lr) (ok : Ok 256 XW nw lw) {g : Nat} {r : Rq} {t : Int} (hd : Hd w base g r t false) (hw : (Lit.int .i64 t).wf = true) {x : XT} (hk : lkG XW t = some x) :
    Calls Try.prog 27 #[.pointer (some ⟨b, 0, none⟩), .pointer (some ⟨g, 0, none⟩)] w fun e w' => e = .returned (.tuple #[]) ∧ (∃ Bw', Tm w' base b wb rb kb hb Bw' Br ck ch Dk Dh C old (XW.filter fun y => !(y.1 == t)) XR nw nr lw lr) ∧ Kx w w' ∧ Below base w w' := by
  have HDR : Hid (Below w.heap.size w w.drew) := (Below.refl _ w).drew
  have HT : Hid (Tm w.drew base b wb rb kb hb Bw Br ck ch Dk Dh C old XW XR nw nr lw lr) := h.below HDR.out
  have HBS : Hid (base ≤ w.heap.size) := h.base_
  have HCA : Hid (Calls Try.prog 38 #[.pointer (some ⟨wb, 0, none⟩), .int .i64 t] w.drew fun e w' => e = .returned (.tuple #[x.2.2, .int .i64 0]) ∧ Trn w.drew wb Bw 256 (XW.filter fun y => !(y.1 == t)) nw lw w') := Ch.cancel_yes w.drew wb Bw 256 XW nw lw t x HT.out.ww ok ok.last1 hw hk
  have HE : Hid (∀ y, Trn w.drew wb Bw 256 (XW.filter fun y => !(y.1 == t)) nw lw y → ((∃ Bw', Tm y base b wb rb kb hb Bw' Br ck ch Dk Dh C old (XW.filter fun y => !(y.1 == t)) XR nw nr lw lr) ∧ Kx w y ∧ Below base w y)) := fun y hy => by
    obtain ⟨a1, a2, a3⟩ := HT.out.wait hy
    exact ⟨a1, (Kx.of HDR.out).trans a2, (HDR.out.mono HBS.out).trans a3⟩
  obtain ⟨c0, c1, -⟩ := h.cells
  obtain ⟨d0, d1, -⟩ := HT.out.cells
  obtain ⟨e1, e2, -⟩ := hd_cells hd
  obtain ⟨f1, f2, -⟩ := hd_cells (hd.keep (Kx.of HDR.out))
  clear h ok hd hw hk
  obtain ⟨xa, xb, xc⟩ := x
  dsimp only at HCA
  go_enter Try.func27, Try.ntmps27
  go_wp2_with fail
  go_region_with ((go_at_call 38; refine HCA.out.mono ?_; rintro e x ⟨rfl, hbx⟩; have HX := HE.out x hbx; have HX2 : Hid ((∃ Bw', Tm x base b wb rb kb hb Bw' Br ck ch Dk Dh C old (XW.filter fun y => !(y.1 == t)) XR nw nr lw lr) ∧ Kx w x ∧ Below base w x) := HX; clear HX hbx))
  all_goals (go_wp2_with fail)
  all_goals go_end0
  all_goals exact ⟨rfl, HX2.out⟩
set_option maxRecDepth 100000 in
set_option maxHeartbeats 1600000 in
theorem stop_late (h : Tm w base b wb rb kb hb Bw Br ck ch Dk Dh C old XW XR nw nr lw lr) (ok : Ok 256 XR nr lr) {g : Nat} {r : Rq} {t : Int} (hd : Hd w base g r t true) (hw : (Lit.int .i64 t).wf = true) {x : XT} (hk : lkG XR t = some x) :
    Calls Try.prog 27 #[.pointer (some ⟨b, 0, none⟩), .pointer (some ⟨g, 0, none⟩)] w fun e w' => e = .returned (.tuple #[]) ∧ (∃ Br', Tm w' base b wb rb kb hb Bw Br' ck ch Dk Dh C old XW (XR.filter fun y => !(y.1 == t)) nw nr lw lr) ∧ Kx w w' ∧ Below base w w' := by
  have HDR : Hid (Below w.heap.size w w.drew) := (Below.refl _ w).drew
  have HT : Hid (Tm w.drew base b wb rb kb hb Bw Br ck ch Dk Dh C old XW XR nw nr lw lr) := h.below HDR.out
  have HBS : Hid (base ≤ w.heap.size) := h.base_
  have HCA : Hid (Calls Try.prog 38 #[.pointer (some ⟨rb, 0, none⟩), .int .i64 t] w.drew fun e w' => e = .returned (.tuple #[x.2.2, .int .i64 0]) ∧ Trn w.drew rb Br 256 (XR.filter fun y => !(y.1 == t)) nr lr w') := Ch.cancel_yes w.drew rb Br 256 XR nr lr t x HT.out.wr ok ok.last1 hw hk
  have HE : Hid (∀ y, Trn w.drew rb Br 256 (XR.filter fun y => !(y.1 == t)) nr lr y → ((∃ Br', Tm y base b wb rb kb hb Bw Br' ck ch Dk Dh C old XW (XR.filter fun y => !(y.1 == t)) nw nr lw lr) ∧ Kx w y ∧ Below base w y)) := fun y hy => by
    obtain ⟨a1, a2, a3⟩ := HT.out.rem hy
    exact ⟨a1, (Kx.of HDR.out).trans a2, (HDR.out.mono HBS.out).trans a3⟩
  obtain ⟨c0, c1, -⟩ := h.cells
  obtain ⟨d0, d1, -⟩ := HT.out.cells
  obtain ⟨e1, e2, -⟩ := hd_cells hd
  obtain ⟨f1, f2, -⟩ := hd_cells (hd.keep (Kx.of HDR.out))
  clear h ok hd hw hk
  obtain ⟨xa, xb, xc⟩ := x
  dsimp only at HCA
  go_enter Try.func27, Try.ntmps27
  go_wp2_with fail
  go_region_with ((go_at_call 38; refine HCA.out.mono ?_; rintro e x ⟨rfl, hbx⟩; have HX := HE.out x hbx; have HX2 : Hid ((∃ Br', Tm x base b wb rb kb hb Bw Br' ck ch Dk Dh C old XW (XR.filter fun y => !(y.1 == t)) nw nr lw lr) ∧ Kx w x ∧ Below base w x) := HX; clear HX hbx))
  all_goals (go_wp2_with fail)
  all_goals go_end0
  all_goals exact ⟨rfl, HX2.out⟩
end
end Go.Proofs.Ytgchdjjafgkcbaa.Pv
