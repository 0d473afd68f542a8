import Derived.Test.YtgchdjjafgkcbaaQf30
/- Table.All: what holds along the range. -/
namespace Go.Proofs.Ytgchdjjafgkcbaa.Vg
set_option linter.unusedVariables false
set_option linter.unusedSimpArgs false
open Go.RowKit Go.Maps Go.Shelf Lib0 Kb Xp Za Ze Ih Fh Hh Va Vb Vc Vd Ve Vf Pa Pb Pc Pe Pf Pg Pl
abbrev tSP : TypeId := 53
def Old (y : World) (b : Nat) (W : World) : Prop := y.heap.size ≤ W.heap.size ∧ ∀ g, g < y.heap.size → g ≠ b → W.heap[g]? = y.heap[g]?
theorem lst_rows {x y : World} {base lo : Nat} {u : Value} {qs : List Rq} (h : Lst x base lo u qs) (k : ∀ (g : Nat) (c : Array Value) (t : TypeId) (fr : Nat × Nat), (t = tP ∨ t = tF) → x.heap[g]? = some (.cells c t fr) → y.heap[g]? = x.heap[g]?) : Lst y base lo u qs := by
  obtain ⟨ps, h1, h2, h3⟩ := h.row
  refine ⟨ps, h1, own_keep h2 fun g hg => ?_, fun p hp => ⟨own_keep (h3 p hp).1 fun g hg => ?_, own_keep (h3 p hp).2 fun g hg => ?_⟩⟩
  · obtain ⟨c, hc⟩ := own_ty h2 hg
    exact k g _ _ _ (.inl rfl) hc
  · obtain ⟨c, hc⟩ := own_ty (h3 p hp).1 hg
    exact k g _ _ _ (.inr rfl) hc
  · obtain ⟨c, hc⟩ := own_ty (h3 p hp).2 hg
    exact k g _ _ _ (.inr rfl) hc
def IA (w y : World) (lb : Nat) (Q : List Rq) (pre : List T3) (W : World) : Prop := ∃ lv, W.heap[lb]? = some (.cells #[lv] tSP) ∧ Lst W y.heap.size y.heap.size lv (Q.take pre.length) ∧ Old y lb W ∧ Below w.heap.size w W
theorem IA_own {w y : World} {lb : Nat} {Q : List Rq} (hw : w.heap.size ≤ y.heap.size) : OwnFrom y.heap.size (fun pre W => IA w y lb Q pre W) := fun s A B row hs hg hr => by
  obtain ⟨lv, a1, a2, a3, a4⟩ := hs
  refine ⟨lv, cells_grown hg (fun r e => (hr r e).2) a1, lst_rows a2 fun g c t fr _ hc => ?_, ⟨Nat.le_trans a3.1 hg.size, fun g h1 h2 => ?_⟩, a4.grown hg a4.size (fun k e => by have := (hr k e).1; omega)⟩
  · rw [cells_grown hg (fun r e => (hr r e).2) hc, hc]
  · exact (hg.block g (Nat.lt_of_lt_of_le h1 a3.1) (fun e => by have := (hr g e.symm).1; omega)).trans (a3.2 g h1 h2)
theorem IA_step {w y W W1 w1 : World} {lb : Nat} {Q : List Rq} {pre : List T3} {x : T3} {r : Rq} {lv v' u1 u2 : Value} {ps : List PT} (hw : w.heap.size ≤ lb) (hlb : lb < y.heap.size) (a1 : W.heap[lb]? = some (.cells #[lv] tSP)) (hps : ps.map Prod.fst = Q.take pre.length) (a2 : W.ownsRow y.heap.size tP 12 lv ps.length (pl ps))
    (a2p : ∀ p ∈ ps, W.ownsRow y.heap.size tF 3 p.2.1 p.1.L1.length (fc p.1.L1) ∧ W.ownsRow y.heap.size tF 3 p.2.2 p.1.L2.length (fc p.1.L2)) (a3 : Old y lb W) (a4 : Below w.heap.size w W)
    (kb : Below W.heap.size W W1) (o1 : W1.ownsRow y.heap.size tF 3 u1 r.L1.length (fc r.L1)) (o2 : W1.ownsRow y.heap.size tF 3 u2 r.L2.length (fc r.L2)) (hQ : Q[pre.length]? = some r)
    (h1 : w1.ownsRow y.heap.size tP 12 v' (ps.length + 1) (pl ps ++ (pcs r u1 u2).toList)) (h2 : W1.grownBy w1 lv.ownBlock) :
    KeepsFrom y.heap.size W (w1.setCell ⟨lb, 0, none⟩ v') ∧ KL W (w1.setCell ⟨lb, 0, none⟩ v') ∧ IA w y lb Q (pre ++ [x]) (w1.setCell ⟨lb, 0, none⟩ v') := by
  have hne : ∀ g, lv.ownBlock = some g → y.heap.size ≤ g := fun g hg => (a2.lt g hg).1
  have e1 : w1.heap[lb]? = some (.cells #[lv] tSP) := gk h2 (kept kb a1) (fun e => by have := hne lb e; omega)
  have hty : ∀ q, lv.ownBlock = some q → ∃ c t fr, W1.heap[q]? = some (.cells c t fr) ∧ t ≠ tL := fun q hq => by
    obtain ⟨c, hc⟩ := own_ty a2 hq
    exact ⟨c, tP, (0, 0), kept kb hc, by decide⟩
  have hrow : ∀ {u : Value} {n : Nat} {xs : List Value}, W1.ownsRow y.heap.size tF 3 u n xs → (w1.setCell ⟨lb, 0, none⟩ v').ownsRow y.heap.size tF 3 u n xs := fun {u n xs} ho => own_keep ho fun g hg => by
    obtain ⟨c, hc⟩ := own_ty ho hg
    have hge := (ho.lt g hg).1
    rw [setCell_ne (p := ⟨lb, 0, none⟩) (fun e : lb = g => by omega) v']
    refine (gk h2 hc (fun e => ?_)).trans hc.symm
    obtain ⟨c2, hc2⟩ := own_ty a2 e
    rw [kept kb hc2] at hc
    injection hc with hc
    injection hc with _ hc
    exact absurd hc (by decide)
  refine ⟨?_, ?_, v', ?_, ⟨ps ++ [(r, u1, u2)], ?_, ?_, ?_⟩, ?_, ?_⟩
  · refine ((kf_below kb).trans (kf_grown h2 fun q hq => ?_)).trans (kf_set e1 0 v')
    obtain ⟨c, t, fr, h, _⟩ := hty q hq
    exact ⟨c, t, fr, h⟩
  · exact kl_t (kl_t (kl_below kb) (kl_grown h2 hty)) (kl_set e1 (by decide) 0 v')
  · rw [setCell_heap e1]; rfl
  · rw [List.map_append, hps, List.length_append, List.length_singleton, List.take_add_one, hQ]; rfl
  · rw [List.length_append, pl_append, pl_one]
    refine own_keep h1 fun g hg => setCell_ne (p := ⟨lb, 0, none⟩) (fun e : lb = g => ?_) v'
    have := (h1.lt g hg).1
    omega
  · intro p hp
    rcases List.mem_append.1 hp with hp | hp
    · obtain ⟨b1, b2⟩ := a2p p hp
      exact ⟨hrow (own_keep b1 fun g hg => by obtain ⟨c, hc⟩ := own_ty b1 hg; exact (kept kb hc).trans hc.symm), hrow (own_keep b2 fun g hg => by obtain ⟨c, hc⟩ := own_ty b2 hg; exact (kept kb hc).trans hc.symm)⟩
    · rw [List.mem_singleton.1 hp]
      exact ⟨hrow o1, hrow o2⟩
  · refine ⟨?_, fun g hg hg2 => ?_⟩
    · rw [setCell_size]
      exact Nat.le_trans a3.1 (Nat.le_trans kb.size h2.size)
    · rw [setCell_ne (p := ⟨lb, 0, none⟩) (fun e : lb = g => hg2 e.symm) v']
      have hgW : g < W.heap.size := Nat.lt_of_lt_of_le hg a3.1
      exact (h2.block g (Nat.lt_of_lt_of_le hgW kb.size) (fun e => by have := hne g e.symm; omega)).trans ((kb.block g hgW).trans (a3.2 g hg hg2))
  · exact ((keepB a4 kb).grown h2 (by have := a4.size; have := kb.size; omega) (fun k hk => by have := hne k hk; omega)).setCell (p := ⟨lb, 0, none⟩) (by simp; omega) v'
end Go.Proofs.Ytgchdjjafgkcbaa.Vg
/- Table.All -/
namespace Go.Proofs.Ytgchdjjafgkcbaa.Vh
set_option linter.unusedVariables false
set_option linter.unusedSimpArgs false
open Go.RowKit Go.Maps Go.Shelf Lib0 Kb Xp Za Ze Ih Dh Eh Fh Gh Hh Kh Jh Mh Th Ch Va Vb Vc Vd Ve Vf Vg Pa Pb Pc Pe Pf Pg Pl Sr
attribute [local go_sem] Oper.semAt_some pv pcs
attribute [-go_sem] Builtin.append_
def t3 (x : XQ) : T3 := (x.1, x.2.1, x.2.2.1)
theorem t3_emb (L : List XQ) : (L.map t3).map emb = L.map tx := by rw [List.map_map]; rfl
/-- those that came earlier are over earlier: the order of All is the order in which they came -/
theorem ord_lw {n : Nat} {L : List XQ} {now last : Int} (ok : Ok n (L.map tx) now last) (h : L.Pairwise fun x y => x.2.1 ≤ y.2.1) : ordT (L.map t3) = L.map t3 := by
  have hi : Inc3 (L.map t3) := inc_emb (by rw [t3_emb]; exact ok.inc)
  refine (ord_is hi (List.Perm.refl _) ?_).symm
  unfold Inc3 at hi
  rw [List.pairwise_map] at hi ⊢
  refine (hi.and h).imp ?_
  rintro x y ⟨h1, h2⟩ h3
  unfold t3 at h1 h3
  unfold Lt3 at h3
  dsimp only at h1 h3
  omega
theorem own_low {x : World} {b1 b2 e size n : Nat} {v : Value} {xs : List Value} (hb : b1 ≤ b2) (h : x.ownsRow b2 e size v n xs) : x.ownsRow b1 e size v n xs := by
  refine ⟨h.1, ?_⟩
  rcases h.2 with h | ⟨g, cap, cur, h1, h2, h3⟩
  · exact .inl h
  · exact .inr ⟨g, cap, cur, h1, Nat.le_trans hb h2, h3⟩
theorem lst_low {x : World} {b1 b2 : Nat} {u : Value} {qs : List Rq} (hb : b1 ≤ b2) (h : Lst x b2 b2 u qs) : Lst x b1 b1 u qs := by
  obtain ⟨ps, h1, h2, h3⟩ := h.row
  exact ⟨ps, h1, own_low hb h2, fun p hp => ⟨own_low hb (h3 p hp).1, own_low hb (h3 p hp).2⟩⟩
set_option maxRecDepth 100000 in
set_option maxHeartbeats 1600000 in
theorem all_tb {w : World} {base b : Nat} {C : Cf} {S : St} (h : Tb w base b C S) (ho : ordT (S.LW.map t3) = S.LW.map t3) (hL : S.LW.length ≤ 65536) :
    Calls Try.prog 17 #[.pointer (some ⟨b, 0, none⟩)] w fun e w' => ∃ lv, e = .returned lv ∧ Lst w' w.heap.size w.heap.size lv (S.LW.map (·.2.2.2)) ∧ Below w.heap.size w w' := by
  have hHW : Hid (∀ x ∈ S.LW, Hd w base x.2.2.1 x.2.2.2 x.1 false ∧ Ro x.2.2.2) := fun x hx => ⟨h.hw x hx, h.iv.ro x (List.mem_append.2 (.inl hx))⟩
  obtain ⟨wb, rb, kb, hb, Bw, Br, ck, ch, Dk, Dh, hm, -⟩ := h.mem
  have ok := h.iv.okw
  have hww := hm.ww
  have hblk := hm.blk
  rw [← t3_emb] at hww ok
  obtain ⟨y5, hy5⟩ : ∃ y5, w.alloc (.cells #[.slice none 0 0] tSP) = y5 := ⟨_, rfl⟩
  have k5 : Below w.heap.size w y5 := hy5 ▸ below_one w _
  have h0 : y5.heap[w.heap.size]? = some (.cells #[.slice none 0 0] tSP) := hy5 ▸ h1_0 w _
  have hs5 : y5.heap.size = w.heap.size + 1 := by rw [← hy5]; simp
  have cW : (w.alloc (.cells #[.slice none 0 0] tSP)).cell? ⟨b, 0, none⟩ = some (.pointer (some ⟨wb, 0, none⟩)) := by rw [hy5]; simp [World.cell?, kept k5 hblk]
  have HY5 : Hid (w.alloc (.cells #[.slice none 0 0] tSP) = y5) := hy5
  clear hy5
  clear hm
  refine (callsIn_wide (n := 8)).1 ?_
  refine callsIn_of_wp_marks Try.func17 rfl trivial ?_ rfl
  simp only [Try.ntmps17, List.size_toArray, List.length_cons, List.length_nil, Nat.reduceAdd, Nat.reduceSub, Array.replicate_succ, Array.replicate_zero, List.push_toArray, List.append_toArray, List.nil_append, List.cons_append]
  refine wpIn_wide.2 ?_
  go_wp2_with fail
  rw [HY5.out]
  refine (Vf.all_any wb y5).mono ?_
  rintro e y6 ⟨rfl, hy6⟩
  have hbt : y6.heap[y5.heap.size]? = some (.cells #[.pointer (some ⟨wb, 0, none⟩)] tPW) := by rw [hy6]; exact h1_0 y5 _
  have k6 : Below y5.heap.size y5 y6 := by rw [hy6]; exact below_one y5 _
  have hs6 : y6.heap.size = w.heap.size + 1 + 1 := by rw [hy6]; simp [hs5]
  have kw : Below w.heap.size w y6 := keepB k5 k6
  replace h0 := kept k6 h0
  rw [hs5] at hbt ⊢
  have hseq := fun n => goes_all kl_kept n y6 wb Bw 256 (S.LW.map t3) S.now S.lw (w.heap.size + 1) (fun _ _ _ _ _ _ => trivial) (hww.below kw) ok hbt
  rw [ho] at hseq
  obtain ⟨s, HS⟩ : ∃ s, Hid (w.heap.size = s) := ⟨_, rfl⟩
  rw [HS.out] at h0 hs6 hseq hbt ⊢
  clear hy6 k6 k5 hs5 HY5 cW hww ok y5
  go_wp2_with fail
  refine (wpIn_wide (n := 8)).1 ?_
  refine range2 (by omega) (gf := 40) (lb := #[.pointer (some ⟨s + 1, 0, none⟩)]) rfl (enters_of Try.func40 (by kernel_rfl) rfl)
    (hseq _) kl_t (fun W l o o' _ h hc _ => kl_b W l o o' h hc) kl_r (Below.refl _ _) 12 5
    (fun pre W => IA w y6 s (S.LW.map (·.2.2.2)) pre W) (fun c _ W => False)
    (IA_own kw.size) (fun c s' A B row hs hg hr => hs) ⟨_, h0, by simpa using lst_nil _ _ _, ⟨Nat.le_refl _, fun _ _ _ => rfl⟩, kw⟩ ?assign ?body ?done ?stop
  case stop =>
    rintro D c pre V hD hp hf hK
    exact hf.elim
  case assign =>
    intro l x W K hK
    gi_wp2
    exact hK
  case body =>
    rintro l pre x V hl hI hpx
    simp only [List.setIfInBounds_toArray, List.set_cons_succ, List.set_cons_zero]
    obtain ⟨lv, b1, b2, b3, b4⟩ := hI
    obtain ⟨ps, c1, c2, c3⟩ := b2.row
    have hsz := HS.out
    have hlen : pre.length < S.LW.length := by have := hpx.length_le; simp at this; omega
    obtain ⟨q, hq⟩ : ∃ q, S.LW[pre.length]? = some q := ⟨_, List.getElem?_eq_getElem hlen⟩
    have hqx : t3 q = x := by
      obtain ⟨t, ht⟩ := hpx
      have : (S.LW.map t3)[pre.length]? = some x := by rw [← ht]; simp
      rw [List.getElem?_map, hq] at this
      exact Option.some.inj this
    have hqQ : (S.LW.map (·.2.2.2))[pre.length]? = some q.2.2.2 := by rw [List.getElem?_map, hq]; rfl
    obtain ⟨hhd, hro⟩ := hHW.out q (List.mem_of_getElem? hq)
    subst hqx
    obtain ⟨t0, tk, g, r⟩ := q
    have hpl : ps.length = pre.length := by have := congrArg List.length c1; simp at this; omega
    obtain ⟨hb0, v1, v2, d1, d2, d3⟩ := hhd
    have hgw := (Array.getElem?_eq_some_iff.1 d1).1
    have d1V : V.heap[g]? = some (.cells (hcs r v1 v2 t0 false) tH (0, 0)) := kept b4 d1
    have cl : V.cell? ⟨s, 0, none⟩ = some lv := by simp [World.cell?, b1]
    have hDR : Below V.heap.size V V.drew := (Below.refl _ _).drew
    obtain ⟨i0, hi0, hz0, hz1, hz2⟩ := infoP12
    obtain ⟨j, HJ⟩ : ∃ j, Hid (ps.length = j) := ⟨_, rfl⟩
    have hj : j ≤ 65536 := by have := HJ.out; omega
    obtain ⟨ol, cp, el, -⟩ := own_form c2
    rw [HJ.out] at el
    subst el
    have HYV : Hid (y6.heap.size ≤ V.heap.size) := b3.1
    have HAP : Hid (∀ (x : World) (u1 u2 : Value), x.ownsRow V.drew.heap.size tF 3 u1 r.L1.length (fc r.L1) → x.ownsRow V.drew.heap.size tF 3 u2 r.L2.length (fc r.L2) → Below V.drew.heap.size V.drew x → x.cell? ⟨s, 0, none⟩ = some (.slice ol j cp) ∧ x.frozen? ⟨s, 0, none⟩ = false ∧ (x.alloc (.cells (pcs r u1 u2) tP)).cell? ⟨s, 0, none⟩ = some (.slice ol j cp) ∧ ∃ gg cap w1, (Builtin.append_ #[tSP, tSP] tSP #[.slice ol j cp, .slice (some ⟨x.heap.size, 0, none⟩) 1 1]).run Try.prog (x.alloc (.cells (pcs r u1 u2) tP)) = .ok (.slice (some ⟨gg, 0, none⟩) (j + 1) cap) w1 ∧ w1.cell? ⟨s, 0, none⟩ = some (.slice ol j cp) ∧ w1.frozen? ⟨s, 0, none⟩ = false ∧
        Hid (KeepsFrom y6.heap.size V (w1.setCell ⟨s, 0, none⟩ (.slice (some ⟨gg, 0, none⟩) (j + 1) cap)) ∧ KL V (w1.setCell ⟨s, 0, none⟩ (.slice (some ⟨gg, 0, none⟩) (j + 1) cap)) ∧ IA w y6 s (S.LW.map (·.2.2.2)) (pre ++ [t3 (t0, tk, g, r)]) (w1.setCell ⟨s, 0, none⟩ (.slice (some ⟨gg, 0, none⟩) (j + 1) cap)))) := fun x u1 u2 o1 o2 hx => by
      have kx : Below V.heap.size V x := keepB hDR hx
      have kxa : Below V.heap.size V (x.alloc (.cells (pcs r u1 u2) tP)) := keepB kx (below_one x _)
      have hxs : x.heap[s]? = some (.cells #[.slice ol j cp] tSP) := kept kx b1
      have hown := own_keep (x := x.alloc (.cells (pcs r u1 u2) tP)) c2 fun q hq => kxa.block q (c2.lt q hq).2
      rw [HJ.out] at hown
      obtain ⟨gg, cap, w1, r1, r2, r3, r4, r5⟩ := run_append_lies (P := Try.prog) (x.alloc (.cells (pcs r u1 u2) tP)) tSP tSP y6.heap.size tP i0 _ 12 168 Try.underlying53 hi0 hz0 hz1 hz2 rfl (by omega) _ j _ hown ⟨x.heap.size, 0, none⟩ 1 1 (pcs r u1 u2).toList rfl (World.news_of_block (h1_0 x _)) (by obtain ⟨o3, p3, e3, -⟩ := own_form o1; obtain ⟨o4, p4, e4, -⟩ := own_form o2; subst e3 e4; simp [pcs, Value.oneCell']) (by omega) (by unfold maxLen; omega) (by omega) (Nat.le_trans HYV.out kxa.size) _ rfl
      have hnl : (Value.slice ol j cp).ownBlock ≠ some s := fun e => by have := (c2.lt s e).1; omega
      have hw1 : w1.heap[s]? = some (.cells #[.slice ol j cp] tSP) := gk r3 (kept (below_one x _) hxs) hnl
      refine ⟨by simp [World.cell?, hxs], by simp [World.frozen?, hxs], by have := kept (below_one x (.cells (pcs r u1 u2) tP)) hxs; unfold World.cell?; rw [this]; rfl, gg, cap, w1, r1, by simp [World.cell?, hw1], by simp [World.frozen?, hw1], ?_⟩
      have hdl : y6.heap.size ≤ V.drew.heap.size := Nat.le_trans HYV.out hDR.size
      exact IA_step (r := r) (u1 := u1) (u2 := u2) (by omega) (by omega) b1 c1 c2 c3 b3 b4 kxa ((own_low hdl o1).alloc _) ((own_low hdl o2).alloc _) hqQ (by rw [HJ.out]; exact r2) r3
    have HCP : Hid (Calls Try.prog 25 #[pv r v1 v2] V.drew (PostP V.drew r)) := by
      have k := keepB b4 hDR
      exact copied_any r v1 v2 V.drew hro ⟨⟨hro.m1, rowf_own (own_keep d2 fun q hq => k.block q (d2.lt q hq).2), hro.f1⟩, ⟨hro.m2, rowf_own (own_keep d3 fun q hq => k.block q (d3.lt q hq).2), hro.f2⟩⟩
    obtain ⟨o1, p1, e1, -⟩ := own_form d2
    obtain ⟨o2, p2, e2, -⟩ := own_form d3
    obtain ⟨lk, cl_, nu, st, tr, fr, to_, no, m1, L1, m2, L2⟩ := r
    dsimp only at e1 e2 HAP
    obtain ⟨K1, HK1⟩ : ∃ K1, Hid (L1.length = K1) := ⟨_, rfl⟩
    obtain ⟨K2, HK2⟩ : ∃ K2, Hid (L2.length = K2) := ⟨_, rfl⟩
    rw [HK1.out] at e1
    rw [HK2.out] at e2
    subst e1 e2
    obtain ⟨f0, f1, f2, f3, f4, f5, f6, f7, f8, f9, f10, f11⟩ := Pj.hcells d1V
    dsimp only at f0 f1 f2 f3 f4 f5 f6 f7 f8 f10
    unfold pv at HCP
    simp only [pcs] at HCP HAP
    clear hl b1 b2 b3 b4 c1 c2 c3 hqQ hro hpx hb0 d1 d2 d3 hDR hHW h ho hq hbt hseq h0 hz0 hz1 hz2 hi0 hblk kw hlen hgw
    simp only [t3]
    gi_wp2_with fail

    gi_region_with (first | (refine ⟨trivial, ?_⟩; gi_at_call 25; refine (CallsIn.inRound l (callsIn_wide.2 HCP.out)).mono ?_; rintro e x ⟨u1, u2, rfl, a1, a2, -, -, a3⟩; obtain ⟨o3, p3, e3, -⟩ := own_form a1; obtain ⟨o4, p4, e4, -⟩ := own_form a2; dsimp only at e3 e4 a1 a2; rw [HK1.out] at e3; rw [HK2.out] at e4; subst e3 e4; obtain ⟨cx, fx, cxa, gg, cap, w1, hrun, c9, f9', HEND⟩ := HAP.out x _ _ a1 a2 a3; clear a1 a2 a3) | fail)
    all_goals exact HEND.out
  case done =>
    rintro D V hD hI hK
    obtain ⟨lv, b1, b2, b3, b4⟩ := hI
    rw [List.length_map, List.take_of_length_le (by simp)] at b2
    have hsz := HS.out
    have cl : V.cell? ⟨s, 0, none⟩ = some lv := by simp [World.cell?, b1]
    have HX : Hid (V.heap[D]? = some (.deferred (some [])) ∧ Lst V y6.heap.size y6.heap.size lv (S.LW.map (·.2.2.2)) ∧ Below w.heap.size w V ∧ w.heap.size ≤ D ∧ w.heap.size ≤ y6.heap.size) := ⟨hK, b2, b4, by omega, kw.size⟩
    clear b1 b2 b3 b4 hK h0 hbt hseq kw
    go_wp2_with fail
    obtain ⟨hK, b2, b4, hwD, hwy⟩ := HX.out
    refine ⟨by simp, .inl ⟨_, _, rfl, run_takeDeferred hK, ?_⟩⟩
    refine ⟨lv, ?_, lv, rfl, ?_, b4.trans (belowK_b (w := w) (Nat.le_refl _) _ D _ (.deferred none) hwD hK rfl rfl)⟩
    · simp [results, Try.f17, go_sem]
    · refine lst_low hwy (lst_rows b2 fun g c t fr _ hc => World.putObj_heap_other (fun e => by subst e; rw [hK] at hc; cases hc))
end Go.Proofs.Ytgchdjjafgkcbaa.Vh
