import Derived.Test.YtgchdjjafgkcbaaQf16
/- Add. -/
namespace Go.Proofs.Ytgchdjjafgkcbaa.Ph
set_option linter.unusedVariables false
set_option linter.unusedSimpArgs false
open Go.RowKit Go.Maps Lib0 Kb Xp Za Ze Ih Fh Hh Pa Pb Pc Pe Pf Pg
attribute [local go_sem] Oper.semAt_some
section
variable {w : World} {base b : Nat} {C : Cf} {S : St}
set_option maxRecDepth 100000 in
set_option maxHeartbeats 1600000 in
theorem add_key (h : Tb w base b C S) {r : Rq} {v1 v2 : Value} (ho : Ro r) (hm : Rm w r v1 v2) (hk : ∃ x ∈ S.LW, kl x.2.2.2 = kl r) : Calls Try.prog 13 #[.pointer (some ⟨b, 0, none⟩), pv r v1 v2] w fun e w' => e = .returned (.int .i64 191) ∧ Below w.heap.size w w' := by
  obtain ⟨o1, n1, p1, rfl⟩ := hm.one.slice
  obtain ⟨o2, n2, p2, rfl⟩ := hm.two.slice
  obtain ⟨y, hy⟩ : ∃ y, w.alloc (.cells (pcs r (.slice o1 n1 p1) (.slice o2 n2 p2)) tP) = y := ⟨_, rfl⟩
  have HY : Hid (Below w.heap.size w y) := hy ▸ below_one _ _
  have hx : y.heap[w.heap.size]? = some (.cells (pcs r (.slice o1 n1 p1) (.slice o2 n2 p2)) tP (0, 0)) := hy ▸ h1_0 _ _
  have HH : Hid (Calls Try.prog 18 #[.pointer (some ⟨b, 0, none⟩), kv r] y fun e w' => e = .returned (.bool true) ∧ Below y.heap.size y w') := has_tb (h.below HY.out) ho true ⟨fun _ => hk, fun _ => rfl⟩
  obtain ⟨d0, d1, d2, d3, d4, -⟩ := pcells hx
  unfold pv
  obtain ⟨lk, cl, nu, st, tr, fr, to_, no, m1, L1, m2, L2⟩ := r
  simp only [pcs, kv, keyV] at hy HH ⊢
  dsimp only at d0 d1 d2 d3 d4
  clear h ho hm hk hx
  go_enter Try.func13, Try.ntmps13
  go_wp2_with fail
  refine HH.out.mono ?_
  rintro e y2 ⟨rfl, hb⟩
  have HB : Hid (Below w.heap.size w y2) := keepB HY.out hb
  clear hb hy
  go_wp2_with fail
  go_ret
  exact ⟨rfl, HB.out⟩
set_option maxRecDepth 100000 in
set_option maxHeartbeats 1600000 in
theorem add_name (h : Tb w base b C S) {r : Rq} {v1 v2 : Value} (ho : Ro r) (hm : Rm w r v1 v2) (hk : ¬ ∃ x ∈ S.LW, kl x.2.2.2 = kl r) (hn : ∃ x ∈ S.LW ++ S.LR, nl x.2.2.2 = nl r) : Calls Try.prog 13 #[.pointer (some ⟨b, 0, none⟩), pv r v1 v2] w fun e w' => e = .returned (.int .i64 191) ∧ Below w.heap.size w w' := by
  obtain ⟨o1, n1, p1, rfl⟩ := hm.one.slice
  obtain ⟨o2, n2, p2, rfl⟩ := hm.two.slice
  obtain ⟨y, hy⟩ : ∃ y, w.alloc (.cells (pcs r (.slice o1 n1 p1) (.slice o2 n2 p2)) tP) = y := ⟨_, rfl⟩
  have HY : Hid (Below w.heap.size w y) := hy ▸ below_one _ _
  have HX : Hid (y.heap[w.heap.size]? = some (.cells (pcs r (.slice o1 n1 p1) (.slice o2 n2 p2)) tP (0, 0))) := hy ▸ h1_0 _ _
  have HH : Hid (Calls Try.prog 18 #[.pointer (some ⟨b, 0, none⟩), kv r] y fun e w' => e = .returned (.bool false) ∧ Below y.heap.size y w') := has_tb (h.below HY.out) ho false ⟨fun e => (by cases e), fun e => absurd e hk⟩
  have HN : Hid (∀ x, Calls Try.prog 24 #[pv r (.slice o1 n1 p1) (.slice o2 n2 p2)] x fun e w' => e = .returned (nv r) ∧ Below x.heap.size x w') := fun x => Pd.nameOf_any r _ _ x ⟨_, _, _, rfl⟩ ⟨_, _, _, rfl⟩
  have HD : Hid (∀ x, Below w.heap.size w x → Calls Try.prog 23 #[.pointer (some ⟨b, 0, none⟩), nv r] x fun e w' => e = .returned (.bool true) ∧ Below x.heap.size x w') := fun x hx => holds_tb (h.below hx) ho true ⟨fun _ => hn, fun _ => rfl⟩
  have HP : Hid (∀ x, Below y.heap.size y x → x.heap[w.heap.size]? = some (.cells (pcs r (.slice o1 n1 p1) (.slice o2 n2 p2)) tP (0, 0))) := fun x hx => kept hx HX.out
  obtain ⟨d0, d1, d2, d3, d4, -⟩ := pcells HX.out
  unfold pv at HN ⊢
  obtain ⟨lk, cl, nu, st, tr, fr, to_, no, m1, L1, m2, L2⟩ := r
  simp only [pcs, kv, keyV, nv, nameV] at hy HH HN HD ⊢
  dsimp only at d0 d1 d2 d3 d4
  clear h ho hm hk hn HX
  go_enter Try.func13, Try.ntmps13
  go_wp2_with fail
  refine HH.out.mono ?_
  rintro e y2 ⟨rfl, hb⟩
  have HB : Hid (Below w.heap.size w y2) := keepB HY.out hb
  obtain ⟨c0, c1, c2, c3, c4, c5, c6, c7, c8, c9, c10, c11⟩ := pcells (HP.out y2 hb)
  dsimp only at c0 c1 c2 c3 c4 c5 c6 c7 c8 c10
  clear hb hy d0 d1 d2 d3 d4 HP
  go_wp2_with fail
  refine (HN.out _).mono ?_
  rintro e y3 ⟨rfl, hb⟩
  have HB3 : Hid (Below w.heap.size w y3) := keepB HB.out hb
  clear hb c0 c1 c2 c3 c4 c5 c6 c7 c8 c9 c10 c11 HB
  go_wp2_with fail
  refine (HD.out _ HB3.out).mono ?_
  rintro e y4 ⟨rfl, hb⟩
  have HB4 : Hid (Below w.heap.size w y4) := keepB HB3.out hb
  clear hb HB3
  go_wp2_with fail
  go_ret
  exact ⟨rfl, HB4.out⟩
set_option maxRecDepth 100000 in
set_option maxHeartbeats 1600000 in
theorem add_full (h : Tb w base b C S) {r : Rq} {v1 v2 : Value} (ho : Ro r) (hm : Rm w r v1 v2) (hk : ¬ ∃ x ∈ S.LW, kl x.2.2.2 = kl r) (hn : ¬ ∃ x ∈ S.LW ++ S.LR, nl x.2.2.2 = nl r) (hf : (S.LW.length : Int) = C.most) : Calls Try.prog 13 #[.pointer (some ⟨b, 0, none⟩), pv r v1 v2] w fun e w' => e = .returned (.int .i64 190) ∧ Below w.heap.size w w' := by
  obtain ⟨o1, n1, p1, rfl⟩ := hm.one.slice
  obtain ⟨o2, n2, p2, rfl⟩ := hm.two.slice
  obtain ⟨y, hy⟩ : ∃ y, w.alloc (.cells (pcs r (.slice o1 n1 p1) (.slice o2 n2 p2)) tP) = y := ⟨_, rfl⟩
  have HY : Hid (Below w.heap.size w y) := hy ▸ below_one _ _
  have HX : Hid (y.heap[w.heap.size]? = some (.cells (pcs r (.slice o1 n1 p1) (.slice o2 n2 p2)) tP (0, 0))) := hy ▸ h1_0 _ _
  have HH : Hid (Calls Try.prog 18 #[.pointer (some ⟨b, 0, none⟩), kv r] y fun e w' => e = .returned (.bool false) ∧ Below y.heap.size y w') := has_tb (h.below HY.out) ho false ⟨fun e => (by cases e), fun e => absurd e hk⟩
  have HN : Hid (∀ x, Calls Try.prog 24 #[pv r (.slice o1 n1 p1) (.slice o2 n2 p2)] x fun e w' => e = .returned (nv r) ∧ Below x.heap.size x w') := fun x => Pd.nameOf_any r _ _ x ⟨_, _, _, rfl⟩ ⟨_, _, _, rfl⟩
  have HD : Hid (∀ x, Below w.heap.size w x → Calls Try.prog 23 #[.pointer (some ⟨b, 0, none⟩), nv r] x fun e w' => e = .returned (.bool false) ∧ Below x.heap.size x w') := fun x hx => holds_tb (h.below hx) ho false ⟨fun e => (by cases e), fun e => absurd e hn⟩
  have HLN : Hid (∀ x, Below w.heap.size w x → x.cell? ⟨b, 5, none⟩ = some (.int .i64 C.most) ∧ Calls Try.prog 11 #[.pointer (some ⟨b, 0, none⟩)] x fun e w' => e = .returned (.int .i64 (S.LW.length : Nat)) ∧ w' = x) := fun x hx => by
    have hx2 := h.below hx
    obtain ⟨wb, rb, kb, hb, Bw, Br, ck, ch, Dk, Dh, h1, -⟩ := hx2.mem
    exact ⟨h1.cells.2.2.2.2.2.1, len_tb hx2⟩
  have HDR : Hid (∀ x, Below w.heap.size w x → ∀ m, Below w.heap.size w (x.drewN m)) := fun x hx m => Kb.below_drewN hx m
  have HP : Hid (∀ x, Below y.heap.size y x → x.heap[w.heap.size]? = some (.cells (pcs r (.slice o1 n1 p1) (.slice o2 n2 p2)) tP (0, 0))) := fun x hx => kept hx HX.out
  obtain ⟨d0, d1, d2, d3, d4, -⟩ := pcells HX.out
  unfold pv at HN ⊢
  obtain ⟨lk, cl, nu, st, tr, fr, to_, no, m1, L1, m2, L2⟩ := r
  simp only [pcs, kv, keyV, nv, nameV] at hy HH HN HD ⊢
  dsimp only at d0 d1 d2 d3 d4
  clear h ho hm hk hn HX
  go_enter Try.func13, Try.ntmps13
  go_wp2_with fail
  refine HH.out.mono ?_
  rintro e y2 ⟨rfl, hb⟩
  have HB : Hid (Below w.heap.size w y2) := keepB HY.out hb
  obtain ⟨c0, c1, c2, c3, c4, c5, c6, c7, c8, c9, c10, c11⟩ := pcells (HP.out y2 hb)
  dsimp only at c0 c1 c2 c3 c4 c5 c6 c7 c8 c10
  clear hb hy d0 d1 d2 d3 d4 HP
  go_wp2_with fail
  refine (HN.out _).mono ?_
  rintro e y3 ⟨rfl, hb⟩
  have HB3 : Hid (Below w.heap.size w y3) := keepB HB.out hb
  clear hb c0 c1 c2 c3 c4 c5 c6 c7 c8 c9 c10 c11 HB
  go_wp2_with fail
  refine (HD.out _ HB3.out).mono ?_
  rintro e y4 ⟨rfl, hb⟩
  have HB4 : Hid (Below w.heap.size w y4) := keepB HB3.out hb
  have a5 := (HLN.out y4 HB4.out).1
  have HQ : Hid (∀ m, Calls Try.prog 11 #[.pointer (some ⟨b, 0, none⟩)] (y4.drewN m) fun e w' => e = .returned (.int .i64 (S.LW.length : Nat)) ∧ w' = y4.drewN m) := fun m => (HLN.out _ (HDR.out y4 HB4.out m)).2
  clear hb HB3 HLN
  have hf2 : ((S.LW.length : Int) == C.most) = true := by rw [hf]; simp
  have HF : Hid ((S.LW.length : Int) = C.most) := hf
  clear hf
  go_wp2_with fail
  go_quiet ((go_at_call 11; exact Calls.quiet_of_same (HQ.out _)))
  go_wp2_with fail
  go_ret
  exact ⟨rfl, HDR.out y4 HB4.out _⟩
end
end Go.Proofs.Ytgchdjjafgkcbaa.Ph
/- Add: it is taken. -/
namespace Go.Proofs.Ytgchdjjafgkcbaa.Px
set_option linter.unusedVariables false
set_option linter.unusedSimpArgs false
open Go.RowKit Go.Maps Lib0 Kb Xp Za Ze Ih Fh Hh Pa Pb Pc Pe Pf Pg
attribute [local go_sem] Oper.semAt_some
def addS (S : St) (C : Cf) (g : Nat) (r : Rq) : St := { S with LW := S.LW ++ [(S.lw + 1, S.now + C.timeout, g, r)], lw := S.lw + 1 }
theorem nd_add {L M : List XQ} {x : XQ} (h : (L ++ M).Pairwise fun x y => nl x.2.2.2 ≠ nl y.2.2.2) (hx : ¬ ∃ y ∈ L ++ M, nl y.2.2.2 = nl x.2.2.2) : ((L ++ [x]) ++ M).Pairwise fun x y => nl x.2.2.2 ≠ nl y.2.2.2 := by
  have hp : ((L ++ [x]) ++ M).Perm (x :: (L ++ M)) := by
    have e : (L ++ [x]) ++ M = L ++ x :: M := by simp
    rw [e]
    exact List.perm_middle
  refine (List.Perm.pairwise_iff (R := fun x y : XQ => nl x.2.2.2 ≠ nl y.2.2.2) (fun {a b} h => Ne.symm h) hp).2 (List.pairwise_cons.2 ⟨fun y hy e => hx ⟨y, hy, e.symm⟩, h⟩)
theorem iv_add {C : Cf} {S : St} {g : Nat} {r : Rq} (h : Iv C S) (co : Co C) (ho : Ro r) (hk : ¬ ∃ x ∈ S.LW, kl x.2.2.2 = kl r) (hn : ¬ ∃ x ∈ S.LW ++ S.LR, nl x.2.2.2 = nl r) (hf : ¬ (S.LW.length : Int) = C.most) (hl : S.lw + 1 ≤ 1000000) : Iv C (addS S C g r) := by
  refine ⟨?_, h.okr, fun x hx => ?_, nd_add h.nd hn, ?_, ?_, h.lenr, h.old0, h.old1, h.old2⟩
  · show Ok 256 ((S.LW ++ [(S.lw + 1, S.now + C.timeout, g, r)]).map tx) S.now (S.lw + 1)
    rw [List.map_append]
    exact Hh.Ok.add h.okw rfl co.t0 co.t1 (by omega)
  · rcases List.mem_append.1 hx with hx | hx
    · rcases List.mem_append.1 hx with hx | hx
      · exact h.ro x (List.mem_append.2 (.inl hx))
      · rw [List.mem_singleton.1 hx]; exact ho
    · exact h.ro x (List.mem_append.2 (.inr hx))
  · show (S.LW ++ [_]).Pairwise _
    rw [List.pairwise_append]
    exact ⟨h.kd, by simp, fun x hx y hy e => hk ⟨x, hx, by rw [e, List.mem_singleton.1 hy]⟩⟩
  · show ((S.LW ++ [_]).length : Int) ≤ _
    rw [List.length_append, List.length_singleton]
    have := h.lenw
    omega
section
variable {w : World} {base b : Nat} {C : Cf} {S : St}
set_option maxRecDepth 100000 in
set_option maxHeartbeats 1600000 in
theorem add_ok (h : Tb w base b C S) {r : Rq} {v1 v2 : Value} (ho : Ro r) (hm : Rm w r v1 v2) (hk : ¬ ∃ x ∈ S.LW, kl x.2.2.2 = kl r) (hn : ¬ ∃ x ∈ S.LW ++ S.LR, nl x.2.2.2 = nl r) (hf : ¬ (S.LW.length : Int) = C.most) (co : Co C) (hlw : S.lw + 1 ≤ 1000000) : Calls Try.prog 13 #[.pointer (some ⟨b, 0, none⟩), pv r v1 v2] w fun e w' => e = .returned (.int .i64 0) ∧ (∃ g, Tb w' base b C (addS S C g r)) ∧ Kt w w' ∧ Below base w w' := by
  obtain ⟨o1, n1, p1, rfl⟩ := hm.one.slice
  obtain ⟨o2, n2, p2, rfl⟩ := hm.two.slice
  obtain ⟨y, hy⟩ : ∃ y, w.alloc (.cells (pcs r (.slice o1 n1 p1) (.slice o2 n2 p2)) tP) = y := ⟨_, rfl⟩
  have HY : Hid (Below w.heap.size w y) := hy ▸ below_one _ _
  have HX : Hid (y.heap[w.heap.size]? = some (.cells (pcs r (.slice o1 n1 p1) (.slice o2 n2 p2)) tP (0, 0))) := hy ▸ h1_0 _ _
  have HH : Hid (Calls Try.prog 18 #[.pointer (some ⟨b, 0, none⟩), kv r] y fun e w' => e = .returned (.bool false) ∧ Below y.heap.size y w') := has_tb (h.below HY.out) ho false ⟨fun e => (by cases e), fun e => absurd e hk⟩
  have HN : Hid (∀ x, Calls Try.prog 24 #[pv r (.slice o1 n1 p1) (.slice o2 n2 p2)] x fun e w' => e = .returned (nv r) ∧ Below x.heap.size x w') := fun x => Pd.nameOf_any r _ _ x ⟨_, _, _, rfl⟩ ⟨_, _, _, rfl⟩
  have HD : Hid (∀ x, Below w.heap.size w x → Calls Try.prog 23 #[.pointer (some ⟨b, 0, none⟩), nv r] x fun e w' => e = .returned (.bool false) ∧ Below x.heap.size x w') := fun x hx => holds_tb (h.below hx) ho false ⟨fun e => (by cases e), fun e => absurd e hn⟩
  have HLN : Hid (∀ x, Below w.heap.size w x → x.cell? ⟨b, 5, none⟩ = some (.int .i64 C.most) ∧ Calls Try.prog 11 #[.pointer (some ⟨b, 0, none⟩)] x fun e w' => e = .returned (.int .i64 (S.LW.length : Nat)) ∧ w' = x) := fun x hx => by
    have hx2 := h.below hx
    obtain ⟨wb, rb, kb, hb, Bw, Br, ck, ch, Dk, Dh, h1, -⟩ := hx2.mem
    exact ⟨h1.cells.2.2.2.2.2.1, len_tb hx2⟩
  have HDR : Hid (∀ x, Below w.heap.size w x → ∀ m, Below w.heap.size w (x.drewN m)) := fun x hx m => Kb.below_drewN hx m
  have HTB : Hid (Tb w base b C S) := h
  have HRO : Hid (Ro r) := ho
  have HRM : Hid (Rm w r (.slice o1 n1 p1) (.slice o2 n2 p2)) := hm
  have HNK : Hid (¬ ∃ x ∈ S.LW, kl x.2.2.2 = kl r) := hk
  have HNN : Hid (¬ ∃ x ∈ S.LW ++ S.LR, nl x.2.2.2 = nl r) := hn
  have HCO : Hid (Co C) := co
  have HLW : Hid (S.lw + 1 ≤ 1000000) := hlw
  have HP : Hid (∀ x, Below y.heap.size y x → x.heap[w.heap.size]? = some (.cells (pcs r (.slice o1 n1 p1) (.slice o2 n2 p2)) tP (0, 0))) := fun x hx => kept hx HX.out
  obtain ⟨d0, d1, d2, d3, d4, -⟩ := pcells HX.out
  unfold pv at HN ⊢
  obtain ⟨lk, cl, nu, st, tr, fr, to_, no, m1, L1, m2, L2⟩ := r
  simp only [pcs, kv, keyV, nv, nameV] at hy HH HN HD ⊢
  dsimp only at d0 d1 d2 d3 d4
  obtain ⟨wb, rb, kb, hb_, Bw, Br, ck, ch, Dk, Dh, hmem⟩ := h.mem
  have HMEM : Hid (Tm w base b wb rb kb hb_ Bw Br ck ch Dk Dh C S.old (S.LW.map tx) (S.LR.map tx) S.now S.now S.lw S.lr ∧ Mt Dk Dh (KPs S.LW) (HPs (S.LW ++ S.LR)) ∧ ck ≤ S.lw.toNat ∧ ch ≤ S.lw.toNat) := hmem
  clear h ho hm hk hn HX co hlw hmem
  go_enter Try.func13, Try.ntmps13
  go_wp2_with fail
  refine HH.out.mono ?_
  rintro e y2 ⟨rfl, hb⟩
  have HB : Hid (Below w.heap.size w y2) := keepB HY.out hb
  have HXY : Hid (Below y.heap.size y y2) := hb
  obtain ⟨c0, c1, c2, c3, c4, c5, c6, c7, c8, c9, c10, c11⟩ := pcells (HP.out y2 hb)
  dsimp only at c0 c1 c2 c3 c4 c5 c6 c7 c8 c10
  clear hb hy d0 d1 d2 d3 d4
  go_wp2_with fail
  refine (HN.out _).mono ?_
  rintro e y3 ⟨rfl, hb⟩
  have HB3 : Hid (Below w.heap.size w y3) := keepB HB.out hb
  have HX3 : Hid (Below y.heap.size y y3) := keepB HXY.out hb
  clear hb c0 c1 c2 c3 c4 c5 c6 c7 c8 c9 c10 c11 HB
  go_wp2_with fail
  refine (HD.out _ HB3.out).mono ?_
  rintro e y4 ⟨rfl, hb⟩
  have HB4 : Hid (Below w.heap.size w y4) := keepB HB3.out hb
  have HX4 : Hid (Below y.heap.size y y4) := keepB HX3.out hb
  have a5 := (HLN.out y4 HB4.out).1
  have HQ : Hid (∀ m, Calls Try.prog 11 #[.pointer (some ⟨b, 0, none⟩)] (y4.drewN m) fun e w' => e = .returned (.int .i64 (S.LW.length : Nat)) ∧ w' = y4.drewN m) := fun m => (HLN.out _ (HDR.out y4 HB4.out m)).2
  clear hb HB3 HLN
  have hf2 : ((S.LW.length : Int) == C.most) = false := by simpa using hf
  have HF : Hid (¬ (S.LW.length : Int) = C.most) := hf
  clear hf
  go_wp2_with fail
  go_quiet ((go_at_call 11; exact Calls.quiet_of_same (HQ.out _)))
  obtain ⟨y5, HY5⟩ : ∃ y5, Hid (y4.drewN nq = y5) := ⟨_, rfl⟩
  rw [HY5.out]
  have HB5 : Hid (Below w.heap.size w y5) := HY5.out ▸ HDR.out y4 HB4.out nq
  have HX5 : Hid (y5.heap[w.heap.size]? = some (.cells (pcs ⟨lk, cl, nu, st, tr, fr, to_, no, m1, L1, m2, L2⟩ (.slice o1 n1 p1) (.slice o2 n2 p2)) tP (0, 0))) := HP.out y5 (HY5.out ▸ Kb.below_drewN HX4.out nq)
  obtain ⟨c0, c1, c2, c3, c4, c5, c6, c7, c8, c9, c10, c11⟩ := pcells HX5.out
  dsimp only at c0 c1 c2 c3 c4 c5 c6 c7 c8 c10
  have HCP : Hid (Calls Try.prog 25 #[pv ⟨lk, cl, nu, st, tr, fr, to_, no, m1, L1, m2, L2⟩ (.slice o1 n1 p1) (.slice o2 n2 p2)] y5 (PostP y5 ⟨lk, cl, nu, st, tr, fr, to_, no, m1, L1, m2, L2⟩)) := copied_any _ _ _ y5 HRO.out (HRM.out.below HB5.out)
  unfold pv at HCP
  simp only [pcs] at HCP
  clear HP HB4 HX4 HX3 HXY HDR hf2 HQ a5
  go_wp2_with fail
  refine HCP.out.mono ?_
  rintro e y6 ⟨u1, u2, rfl, hr1, hr2, -, -, hb⟩
  have HB6 : Hid (Below w.heap.size w y6) := keepB HB5.out hb
  obtain ⟨q1, t1, eu1, -⟩ := own_form hr1
  obtain ⟨q2, t2, eu2, -⟩ := own_form hr2
  have HR1 : Hid (y6.ownsRow base tF 3 u1 L1.length (fc L1)) := by
    obtain ⟨wb, rb, kb, hb, Bw, Br, ck, ch, Dk, Dh, h1, -⟩ := HTB.out.mem
    exact own_low hr1 (Nat.le_trans h1.base_ HB5.out.size)
  have HR2 : Hid (y6.ownsRow base tF 3 u2 L2.length (fc L2)) := by
    obtain ⟨wb, rb, kb, hb, Bw, Br, ck, ch, Dk, Dh, h1, -⟩ := HTB.out.mem
    exact own_low hr2 (Nat.le_trans h1.base_ HB5.out.size)
  obtain ⟨K1, HK1⟩ : ∃ K1, Hid (L1.length = K1) := ⟨_, rfl⟩
  obtain ⟨K2, HK2⟩ : ∃ K2, Hid (L2.length = K2) := ⟨_, rfl⟩
  dsimp only at eu1 eu2
  rw [HK1.out] at eu1 HR1
  rw [HK2.out] at eu2 HR2
  subst eu1 eu2
  have HX6 : Hid (y6.heap[w.heap.size]? = some (.cells (pcs ⟨lk, cl, nu, st, tr, fr, to_, no, m1, L1, m2, L2⟩ (.slice o1 n1 p1) (.slice o2 n2 p2)) tP (0, 0))) := kept hb HX5.out
  clear hr1 hr2 hb HX5 HB5 c0 c1 c2 c3 c4 c5 c6 c7 c8 c9 c10 c11 HCP HY5
  unfold pv
  simp only [pcs]
  go_wp2_with fail
  obtain ⟨y7, hy7⟩ : ∃ y7, y6.alloc (.cells #[.int .i64 lk, .int .i64 cl, .string nu, .string st, .string tr, .int .i64 fr, .int .i64 to_, .int .i64 no, .string m1, .slice q1 K1 t1, .string m2, .slice q2 K2 t2, .int .i64 0, .bool false] tH) = y7 := ⟨_, rfl⟩
  have HB7 : Hid (Below y6.heap.size y6 y7) := hy7 ▸ below_one _ _
  have HG7 : Hid (y7.heap[y6.heap.size]? = some (.cells #[.int .i64 lk, .int .i64 cl, .string nu, .string st, .string tr, .int .i64 fr, .int .i64 to_, .int .i64 no, .string m1, .slice q1 K1 t1, .string m2, .slice q2 K2 t2, .int .i64 0, .bool false] tH (0, 0))) := hy7 ▸ h1_0 _ _
  obtain ⟨g, HG⟩ : ∃ g, Hid (y6.heap.size = g) := ⟨_, rfl⟩
  rw [HG.out] at HG7 ⊢
  rw [hy7]
  clear hy7
  have HW7 : Hid (Below w.heap.size w y7) := keepB HB6.out HB7.out
  have HD7 : Hid (Hd y7 base g ⟨lk, cl, nu, st, tr, fr, to_, no, m1, L1, m2, L2⟩ 0 false) := by
    refine ⟨?_, .slice q1 K1 t1, .slice q2 K2 t2, HG7.out, ?_, ?_⟩
    · rw [← HG.out]; exact Nat.le_trans HMEM.out.1.base_ HB6.out.size
    · rw [HK1.out]; exact (Kx.of HB7.out).row HR1.out
    · rw [HK2.out]; exact (Kx.of HB7.out).row HR2.out
  refine (wait_any (HMEM.out.1.below HW7.out) HCO.out HTB.out.iv.okw (by have := HLW.out; omega) HD7.out).mono ?_
  rintro e y8 ⟨rfl, h1, h2, h3, h4, h5⟩
  obtain ⟨Bw2, h1⟩ := h1
  have HT8 : Hid (Tm y8 base b wb rb kb hb_ Bw2 Br ck ch Dk Dh C S.old (S.LW.map tx ++ [(S.lw + 1, S.now + C.timeout, .pointer (some ⟨g, 0, none⟩))]) (S.LR.map tx) S.now S.now (S.lw + 1) S.lr) := h1
  have HD8 : Hid (Hd y8 base g ⟨lk, cl, nu, st, tr, fr, to_, no, m1, L1, m2, L2⟩ (S.lw + 1) false) := h2
  have HF8 : Hid (Kt w y8 ∧ Below base w y8) := ⟨(Kt.of HW7.out).trans h3, (HW7.out.mono HMEM.out.1.base_).trans h5⟩
  have HO8 : Hid (∀ k r t l, Hd w base k r t l → Hd y8 base k r t l) := fun k r t l hd => h4 k r t l (by have := hd.lt; have := HB6.out.size; have := HG.out; omega) (hd.keep (Kx.of HW7.out))
  have HX8 : Hid (y8.heap[w.heap.size]? = some (.cells (pcs ⟨lk, cl, nu, st, tr, fr, to_, no, m1, L1, m2, L2⟩ (.slice o1 n1 p1) (.slice o2 n2 p2)) tP (0, 0))) := (h3.block _ _ _ _ (kept HB7.out HX6.out) (by decide) (by decide) (by decide) (by decide) (by decide)).trans (kept HB7.out HX6.out)
  have HGB : Hid (base ≤ g) := HD7.out.1
  clear h1 h2 h3 h4 h5 HB7 HW7 HD7 HG7 HX6 HR1 HR2 HB6
  obtain ⟨w1, w2, hg8, hw1, hw2⟩ := HD8.out.2
  have e6 := HT8.out.cells.2.2.2.2.2.2.1
  have f0 : y8.cell? ⟨g, 0, none⟩ = some (.int .i64 lk) := by unfold hcs at hg8; simp [World.cell?, hg8]
  have f1 : y8.cell? ⟨g, 1, none⟩ = some (.int .i64 cl) := by unfold hcs at hg8; simp [World.cell?, hg8]
  have f2 : y8.cell? ⟨g, 2, none⟩ = some (.string nu) := by unfold hcs at hg8; simp [World.cell?, hg8]
  have f3 : y8.cell? ⟨g, 3, none⟩ = some (.string st) := by unfold hcs at hg8; simp [World.cell?, hg8]
  have f4 : y8.cell? ⟨g, 4, none⟩ = some (.string tr) := by unfold hcs at hg8; simp [World.cell?, hg8]
  clear hg8 hw1 hw2
  have HKEY : Hid (keyOf Try.prog tK (kv ⟨lk, cl, nu, st, tr, fr, to_, no, m1, L1, m2, L2⟩) = some (kl ⟨lk, cl, nu, st, tr, fr, to_, no, m1, L1, m2, L2⟩)) := kl_of HRO.out
  have HNAM : Hid (keyOf Try.prog tN (nv ⟨lk, cl, nu, st, tr, fr, to_, no, m1, L1, m2, L2⟩) = some (nl ⟨lk, cl, nu, st, tr, fr, to_, no, m1, L1, m2, L2⟩)) := nl_of HRO.out
  have HST : Hid (∃ w', (Instr.mapUpdate tMK (.map (some kb)) (kv ⟨lk, cl, nu, st, tr, fr, to_, no, m1, L1, m2, L2⟩) (.agg #[])).run Try.prog y8.drew = .ok () w' ∧ w'.ownsMap Try.prog tK unitElem kb (ck + 1) (Dk.put (kl ⟨lk, cl, nu, st, tr, fr, to_, no, m1, L1, m2, L2⟩) (.agg [])) ∧ y8.drew.mapTurned w' kb) := HT8.out.keys.drew.store lawK Try.underlying65 (by have := HMEM.out.2.2.1; have := HLW.out; unfold maxLen; omega) HKEY.out unitElem_mk
  obtain ⟨y9, hrun9, ho9, ht9⟩ := HST.out
  have HK9 : Hid (Tm y9 base b wb rb kb hb_ Bw2 Br (ck + 1) ch (Dk.put (kl ⟨lk, cl, nu, st, tr, fr, to_, no, m1, L1, m2, L2⟩) (.agg [])) Dh C S.old (S.LW.map tx ++ [(S.lw + 1, S.now + C.timeout, .pointer (some ⟨g, 0, none⟩))]) (S.LR.map tx) S.now S.now (S.lw + 1) S.lr ∧ Kx y8 y9 ∧ Below base y8 y9) := ⟨(HT8.out.below ((Below.refl _ _).drew)).key ho9 ht9, (Kx.of ((Below.refl _ y8).drew)).trans (kx_of_map ht9), (((Below.refl _ y8).drew).mono HT8.out.base_).trans (turned_below ht9 HT8.out.low.2.1 HT8.out.base_)⟩
  have HX9 : Hid (y9.heap[w.heap.size]? = some (.cells (pcs ⟨lk, cl, nu, st, tr, fr, to_, no, m1, L1, m2, L2⟩ (.slice o1 n1 p1) (.slice o2 n2 p2)) tP (0, 0))) := (HK9.out.2.1.block _ _ _ _ HX8.out (by decide) (by decide) (by decide) (by decide)).trans HX8.out
  have HDR9 : Hid (Below y9.heap.size y9 y9.drew) := (Below.refl _ _).drew
  have HF9 : Hid (∀ x, Below y9.heap.size y9 x → x.cell? ⟨b, 7, none⟩ = some (.map (some hb_)) ∧ ∃ w', (Instr.mapUpdate tMH (.map (some hb_)) (nv ⟨lk, cl, nu, st, tr, fr, to_, no, m1, L1, m2, L2⟩) (.pointer (some ⟨g, 0, none⟩))).run Try.prog x = .ok () w' ∧ Hid ((∃ g, Tb w' base b C (addS S C g ⟨lk, cl, nu, st, tr, fr, to_, no, m1, L1, m2, L2⟩)) ∧ Kt w w' ∧ Below base w w')) := fun x hx => by
    have hT := HK9.out.1.below hx
    obtain ⟨w', hr, ho, ht⟩ := hT.held.store lawN Try.underlying66 (by have := HMEM.out.2.2.2; have := HLW.out; unfold maxLen; omega) (val := .pointer (some ⟨g, 0, none⟩)) (d := .held (.pointer (some ⟨g, 0, none⟩))) (ps := []) HNAM.out rfl
    have hkx : Kx y8 w' := (HK9.out.2.1.trans (Kx.of hx)).trans (kx_of_map ht)
    refine ⟨hT.cells.2.2.2.2.2.2.2, w', hr, ⟨g, ⟨⟨wb, rb, kb, hb_, Bw2, Br, ck + 1, ch + 1, _, _, ?_, ((HMEM.out.2.1.putK ⟨lk, cl, nu, st, tr, fr, to_, no, m1, L1, m2, L2⟩).putH g ⟨lk, cl, nu, st, tr, fr, to_, no, m1, L1, m2, L2⟩ ?_).congr ?_ ?_, ?_, ?_⟩, ?_, ?_, ?_⟩⟩, HF8.out.1.trans hkx.kt, (HF8.out.2.trans HK9.out.2.2).trans ((hx.mono HK9.out.1.base_).trans (turned_below ht hT.low.2.2 hT.base_))⟩
    · have := hT.hel ho ht
      show Tm w' base b wb rb kb hb_ Bw2 Br (ck + 1) (ch + 1) _ _ C S.old ((S.LW ++ [(S.lw + 1, S.now + C.timeout, g, (⟨lk, cl, nu, st, tr, fr, to_, no, m1, L1, m2, L2⟩ : Rq))]).map tx) (S.LR.map tx) S.now S.now (S.lw + 1) S.lr
      rw [List.map_append]
      exact this
    · rintro k q ⟨x, hx, -, rfl⟩ e
      exact HNN.out ⟨x, hx, e⟩
    · intro q
      constructor
      · rintro (⟨x, hx, e⟩ | rfl)
        · exact ⟨x, List.mem_append.2 (.inl hx), e⟩
        · exact ⟨_, List.mem_append.2 (.inr (List.mem_singleton.2 rfl)), rfl⟩
      · rintro ⟨x, hx, e⟩
        rcases List.mem_append.1 hx with hx | hx
        · exact .inl ⟨x, hx, e⟩
        · rw [List.mem_singleton.1 hx] at e; exact .inr e.symm
    · intro k q
      constructor
      · rintro (⟨x, hx, e⟩ | ⟨rfl, rfl⟩)
        · rcases List.mem_append.1 hx with hx | hx
          · exact ⟨x, List.mem_append.2 (.inl (List.mem_append.2 (.inl hx))), e⟩
          · exact ⟨x, List.mem_append.2 (.inr hx), e⟩
        · exact ⟨_, List.mem_append.2 (.inl (List.mem_append.2 (.inr (List.mem_singleton.2 rfl)))), rfl, rfl⟩
      · rintro ⟨x, hx, e⟩
        rcases List.mem_append.1 hx with hx | hx
        · rcases List.mem_append.1 hx with hx | hx
          · exact .inl ⟨x, List.mem_append.2 (.inl hx), e⟩
          · rw [List.mem_singleton.1 hx] at e; exact .inr ⟨e.1.symm, e.2.symm⟩
        · exact .inl ⟨x, List.mem_append.2 (.inr hx), e⟩
    · have h1 := HMEM.out.2.2.1
      have h2 := HTB.out.iv.okw.last0
      show ck + 1 ≤ (S.lw + 1).toNat
      omega
    · have h1 := HMEM.out.2.2.2
      have h2 := HTB.out.iv.okw.last0
      show ch + 1 ≤ (S.lw + 1).toNat
      omega
    · intro x hx
      rcases List.mem_append.1 hx with hx | hx
      · exact (HO8.out _ _ _ _ (HTB.out.hw x hx)).keep hkx
      · rw [List.mem_singleton.1 hx]; exact HD8.out.keep hkx
    · intro x hx
      exact (HO8.out _ _ _ _ (HTB.out.hr x hx)).keep hkx
    · exact iv_add HTB.out.iv HCO.out HRO.out HNK.out HNN.out HF.out HLW.out
  obtain ⟨g0, g1, g2, g3, g4, g5, g6, g7, g8, g9, g10, g11⟩ := pcells HX9.out
  dsimp only at g0 g1 g2 g3 g4 g5 g6 g7 g8 g10
  have e7 := (HF9.out y9 (Below.refl _ _)).1
  clear ho9 ht9 HST
  simp only [kv, keyV] at hrun9
  simp only [nv, nameV] at HF9 HN
  go_wp2_with fail
  go_region
  all_goals
    go_wp2_with fail
    go_region_with ((go_at_call 24; refine (HN.out _).mono ?_; rintro e x ⟨rfl, hb⟩; obtain ⟨a7, w3, hrun, HEND⟩ := HF9.out x (keepB HDR9.out hb); clear hb))
  all_goals
    go_wp2_with fail
    go_ret
    exact ⟨rfl, HEND.out⟩
end
end Go.Proofs.Ytgchdjjafgkcbaa.Px
