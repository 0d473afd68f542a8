/- Add. -/
import Derived.Test.YtgchdjjafgkcbaaPg
namespace Go.Proofs.Ytgchdjjafgkcbaa.Ph
set_option linter.unusedVariables false
set_option linter.unusedSimpArgs false
open Go.RowKit Go.Maps Lib0 Kb Xp Za Ze Ih Fh Hh Pa Pb Pc Pe Pf Pg
attribute [local go_sem] Oper.semAt_some
section
variable {w : World} {base b : Nat} {C : Cf} {S : St}
set_option maxRecDepth 100000 in
set_option maxHeartbeats 1600000 in
theorem add_key (h : Tb w base b C S) {r : Rq} {v1 v2 : Value} (ho : Ro r) (hm : Rm w r v1 v2) (hk : ∃ x ∈ S.LW, kl x.2.2.2 = kl r) : Calls Try.prog 13 #[.pointer (some ⟨b, 0, none⟩), pv r v1 v2] w fun e w' => e = .returned (.int .i64 191) ∧ Below w.heap.size w w' := by
  obtain ⟨o1, n1, p1, rfl⟩ := hm.one.slice
  obtain ⟨o2, n2, p2, rfl⟩ := hm.two.slice
  obtain ⟨y, hy⟩ : ∃ y, w.alloc (.cells (pcs r (.slice o1 n1 p1) (.slice o2 n2 p2)) tP) = y := ⟨_, rfl⟩
  have HY : Hid (Below w.heap.size w y) := hy ▸ below_one _ _
  have hx : y.heap[w.heap.size]? = some (.cells (pcs r (.slice o1 n1 p1) (.slice o2 n2 p2)) tP (0, 0)) := hy ▸ h1_0 _ _
  have HH : Hid (Calls Try.prog 18 #[.pointer (some ⟨b, 0, none⟩), kv r] y fun e w' => e = .returned (.bool true) ∧ Below y.heap.size y w') := has_tb (h.below HY.out) ho true ⟨fun _ => hk, fun _ => rfl⟩
  obtain ⟨d0, d1, d2, d3, d4, -⟩ := pcells hx
  unfold pv
  obtain ⟨lk, cl, nu, st, tr, fr, to_, no, m1, L1, m2, L2⟩ := r
  simp only [pcs, kv, keyV] at hy HH ⊢
  dsimp only at d0 d1 d2 d3 d4
  clear h ho hm hk hx
  go_enter Try.func13, Try.ntmps13
  go_wp2_with fail
  refine HH.out.mono ?_
  rintro e y2 ⟨rfl, hb⟩
  have HB : Hid (Below w.heap.size w y2) := keepB HY.out hb
  clear hb hy
  go_wp2_with fail
  go_ret
  exact ⟨rfl, HB.out⟩
set_option maxRecDepth 100000 in
set_option maxHeartbeats 1600000 in
theorem add_name (h : Tb w base b C S) {r : Rq} {v1 v2 : Value} (ho : Ro r) (hm : Rm w r v1 v2) (hk : ¬ ∃ x ∈ S.LW, kl x.2.2.2 = kl r) (hn : ∃ x ∈ S.LW ++ S.LR, nl x.2.2.2 = nl r) : Calls Try.prog 13 #[.pointer (some ⟨b, 0, none⟩), pv r v1 v2] w fun e w' => e = .returned (.int .i64 191) ∧ Below w.heap.size w w' := by
  obtain ⟨o1, n1, p1, rfl⟩ := hm.one.slice
  obtain ⟨o2, n2, p2, rfl⟩ := hm.two.slice
  obtain ⟨y, hy⟩ : ∃ y, w.alloc (.cells (pcs r (.slice o1 n1 p1) (.slice o2 n2 p2)) tP) = y := ⟨_, rfl⟩
  have HY : Hid (Below w.heap.size w y) := hy ▸ below_one _ _
  have HX : Hid (y.heap[w.heap.size]? = some (.cells (pcs r (.slice o1 n1 p1) (.slice o2 n2 p2)) tP (0, 0))) := hy ▸ h1_0 _ _
  have HH : Hid (Calls Try.prog 18 #[.pointer (some ⟨b, 0, none⟩), kv r] y fun e w' => e = .returned (.bool false) ∧ Below y.heap.size y w') := has_tb (h.below HY.out) ho false ⟨fun e => (by cases e), fun e => absurd e hk⟩
  have HN : Hid (∀ x, Calls Try.prog 24 #[pv r (.slice o1 n1 p1) (.slice o2 n2 p2)] x fun e w' => e = .returned (nv r) ∧ Below x.heap.size x w') := fun x => Pd.nameOf_any r _ _ x ⟨_, _, _, rfl⟩ ⟨_, _, _, rfl⟩
  have HD : Hid (∀ x, Below w.heap.size w x → Calls Try.prog 23 #[.pointer (some ⟨b, 0, none⟩), nv r] x fun e w' => e = .returned (.bool true) ∧ Below x.heap.size x w') := fun x hx => holds_tb (h.below hx) ho true ⟨fun _ => hn, fun _ => rfl⟩
  have HP : Hid (∀ x, Below y.heap.size y x → x.heap[w.heap.size]? = some (.cells (pcs r (.slice o1 n1 p1) (.slice o2 n2 p2)) tP (0, 0))) := fun x hx => kept hx HX.out
  obtain ⟨d0, d1, d2, d3, d4, -⟩ := pcells HX.out
  unfold pv at HN ⊢
  obtain ⟨lk, cl, nu, st, tr, fr, to_, no, m1, L1, m2, L2⟩ := r
  simp only [pcs, kv, keyV, nv, nameV] at hy HH HN HD ⊢
  dsimp only at d0 d1 d2 d3 d4
  clear h ho hm hk hn HX
  go_enter Try.func13, Try.ntmps13
  go_wp2_with fail
  refine HH.out.mono ?_
  rintro e y2 ⟨rfl, hb⟩
  have HB : Hid (Below w.heap.size w y2) := keepB HY.out hb
  obtain ⟨c0, c1, c2, c3, c4, c5, c6, c7, c8, c9, c10, c11⟩ := pcells (HP.out y2 hb)
  dsimp only at c0 c1 c2 c3 c4 c5 c6 c7 c8 c10
  clear hb hy d0 d1 d2 d3 d4 HP
  go_wp2_with fail
  refine (HN.out _).mono ?_
  rintro e y3 ⟨rfl, hb⟩
  have HB3 : Hid (Below w.heap.size w y3) := keepB HB.out hb
  clear hb c0 c1 c2 c3 c4 c5 c6 c7 c8 c9 c10 c11 HB
  go_wp2_with fail
  refine (HD.out _ HB3.out).mono ?_
  rintro e y4 ⟨rfl, hb⟩
  have HB4 : Hid (Below w.heap.size w y4) := keepB HB3.out hb
  clear hb HB3
  go_wp2_with fail
  go_ret
  exact ⟨rfl, HB4.out⟩
set_option maxRecDepth 100000 in
set_option maxHeartbeats 1600000 in
theorem add_full (h : Tb w base b C S) {r : Rq} {v1 v2 : Value} (ho : Ro r) (hm : Rm w r v1 v2) (hk : ¬ ∃ x ∈ S.LW, kl x.2.2.2 = kl r) (hn : ¬ ∃ x ∈ S.LW ++ S.LR, nl x.2.2.2 = nl r) (hf : (S.LW.length : Int) = C.most) : Calls Try.prog 13 #[.pointer (some ⟨b, 0, none⟩), pv r v1 v2] w fun e w' => e = .returned (.int .i64 190) ∧ Below w.heap.size w w' := by
  obtain ⟨o1, n1, p1, rfl⟩ := hm.one.slice
  obtain ⟨o2, n2, p2, rfl⟩ := hm.two.slice
  obtain ⟨y, hy⟩ : ∃ y, w.alloc (.cells (pcs r (.slice o1 n1 p1) (.slice o2 n2 p2)) tP) = y := ⟨_, rfl⟩
  have HY : Hid (Below w.heap.size w y) := hy ▸ below_one _ _
  have HX : Hid (y.heap[w.heap.size]? = some (.cells (pcs r (.slice o1 n1 p1) (.slice o2 n2 p2)) tP (0, 0))) := hy ▸ h1_0 _ _
  have HH : Hid (Calls Try.prog 18 #[.pointer (some ⟨b, 0, none⟩), kv r] y fun e w' => e = .returned (.bool false) ∧ Below y.heap.size y w') := has_tb (h.below HY.out) ho false ⟨fun e => (by cases e), fun e => absurd e hk⟩
  have HN : Hid (∀ x, Calls Try.prog 24 #[pv r (.slice o1 n1 p1) (.slice o2 n2 p2)] x fun e w' => e = .returned (nv r) ∧ Below x.heap.size x w') := fun x => Pd.nameOf_any r _ _ x ⟨_, _, _, rfl⟩ ⟨_, _, _, rfl⟩
  have HD : Hid (∀ x, Below w.heap.size w x → Calls Try.prog 23 #[.pointer (some ⟨b, 0, none⟩), nv r] x fun e w' => e = .returned (.bool false) ∧ Below x.heap.size x w') := fun x hx => holds_tb (h.below hx) ho false ⟨fun e => (by cases e), fun e => absurd e hn⟩
  have HLN : Hid (∀ x, Below w.heap.size w x → x.cell? ⟨b, 5, none⟩ = some (.int .i64 C.most) ∧ Calls Try.prog 11 #[.pointer (some ⟨b, 0, none⟩)] x fun e w' => e = .returned (.int .i64 (S.LW.length : Nat)) ∧ w' = x) := fun x hx => by
    have hx2 := h.below hx
    obtain ⟨wb, rb, kb, hb, Bw, Br, ck, ch, Dk, Dh, h1, -⟩ := hx2.mem
    exact ⟨h1.cells.2.2.2.2.2.1, len_tb hx2⟩
  have HDR : Hid (∀ x, Below w.heap.size w x → ∀ m, Below w.heap.size w (x.drewN m)) := fun x hx m => Kb.below_drewN hx m
  have HP : Hid (∀ x, Below y.heap.size y x → x.heap[w.heap.size]? = some (.cells (pcs r (.slice o1 n1 p1) (.slice o2 n2 p2)) tP (0, 0))) := fun x hx => kept hx HX.out
  obtain ⟨d0, d1, d2, d3, d4, -⟩ := pcells HX.out
  unfold pv at HN ⊢
  obtain ⟨lk, cl, nu, st, tr, fr, to_, no, m1, L1, m2, L2⟩ := r
  simp only [pcs, kv, keyV, nv, nameV] at hy HH HN HD ⊢
  dsimp only at d0 d1 d2 d3 d4
  clear h ho hm hk hn HX
  go_enter Try.func13, Try.ntmps13
  go_wp2_with fail
  refine HH.out.mono ?_
  rintro e y2 ⟨rfl, hb⟩
  have HB : Hid (Below w.heap.size w y2) := keepB HY.out hb
  obtain ⟨c0, c1, c2, c3, c4, c5, c6, c7, c8, c9, c10, c11⟩ := pcells (HP.out y2 hb)
  dsimp only at c0 c1 c2 c3 c4 c5 c6 c7 c8 c10
  clear hb hy d0 d1 d2 d3 d4 HP
  go_wp2_with fail
  refine (HN.out _).mono ?_
  rintro e y3 ⟨rfl, hb⟩
  have HB3 : Hid (Below w.heap.size w y3) := keepB HB.out hb
  clear hb c0 c1 c2 c3 c4 c5 c6 c7 c8 c9 c10 c11 HB
  go_wp2_with fail
  refine (HD.out _ HB3.out).mono ?_
  rintro e y4 ⟨rfl, hb⟩
  have HB4 : Hid (Below w.heap.size w y4) := keepB HB3.out hb
  have a5 := (HLN.out y4 HB4.out).1
  have HQ : Hid (∀ m, Calls Try.prog 11 #[.pointer (some ⟨b, 0, none⟩)] (y4.drewN m) fun e w' => e = .returned (.int .i64 (S.LW.length : Nat)) ∧ w' = y4.drewN m) := fun m => (HLN.out _ (HDR.out y4 HB4.out m)).2
  clear hb HB3 HLN
  have hf2 : ((S.LW.length : Int) == C.most) = true := by rw [hf]; simp
  have HF : Hid ((S.LW.length : Int) = C.most) := hf
  clear hf
  go_wp2_with fail
  go_quiet ((go_at_call 11; exact Calls.quiet_of_same (HQ.out _)))
  go_wp2_with fail
  go_ret
  exact ⟨rfl, HDR.out y4 HB4.out _⟩
end
end Go.Proofs.Ytgchdjjafgkcbaa.Ph
