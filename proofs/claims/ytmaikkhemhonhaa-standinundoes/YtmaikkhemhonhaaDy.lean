/- Ask. -/
import Derived.Test.YtmaikkhemhonhaaDv
import Derived.Test.YtmaikkhemhonhaaDw
namespace Go.Proofs.Ytmaikkhemhonhaa.Dy
set_option linter.unusedVariables false
set_option linter.unusedSimpArgs false
open Go.RowKit Go.Maps Lib0 Kb Xp Da Db Dc Dd De Df Dh Di Dj Dk Dl Dm Dn Dp Dq Dr Ds Dt Du Dv Dw
attribute [local go_sem] Oper.semAt_some
def fgt (S : St) (c : ByteArray) : St := { S with G := S.G.filter fun g => decide (g.1 ≠ c) }
def nowS (S : St) (n : Int) : St := { S with now := n }
def mOf (S : St) (c : ByteArray) (m : Nat) : Nat := if ∃ g ∈ S.G, g.1 = c then m else m + 1
def Min (G : List Ga) (c : ByteArray) : Prop := (∃ g ∈ G, g.1 = c) ∧ ∀ d, (∃ g ∈ G, g.1 = d) → lastN (lc G c) ≤ lastN (lc G d)
theorem lc_filter (G : List Ga) (c d : ByteArray) (h : d ≠ c) : lc (G.filter fun g => decide (g.1 ≠ c)) d = lc G d := by
  unfold lc
  rw [List.filter_filter]
  congr 1
  apply List.filter_congr
  intro g _
  by_cases e : g.1 = d
  · subst e; simp [h]
  · simp [e]
theorem iv_sub {S : St} {G' : List Ga} (h : Iv S) (hs : G'.Sublist S.G) : Iv { S with G := G' } := ⟨h.m0, h.m1, h.n0, h.n1, h.g0, h.g1, fun g hg => h.tk g (hs.subset hg), h.up.sublist hs, fun g hg => h.am g (hs.subset hg), h.nu.sublist hs, fun g hg => h.nb g (hs.subset hg)⟩
theorem gt_del {A A' : List Rc} {G : List Ga} {a : Rc} (h : Gt A G) (nd : A.Pairwise fun a c => a.card ≠ c.card) (p : (A' ++ [a]).Perm A) : Gt A' (G.filter fun g => decide (g.1 ≠ a.card)) := by
  have nd2 := (p.pairwise_iff (R := fun a c => a.card ≠ c.card) (fun h => Ne.symm h)).2 nd
  have hA : ∀ c ∈ A', c.card ≠ a.card := fun c hc => (List.pairwise_append.1 nd2).2.2 c hc a (by simp)
  have hs : ∀ c ∈ A', c ∈ A := fun c hc => p.mem_iff.1 (by simp [hc])
  refine ⟨fun c hc => ?_, fun c hc => h.ne c (hs c hc), fun g hg => ?_, fun c hc => h.sz c (hs c hc)⟩
  · rw [lc_filter _ _ _ (hA c hc)]; exact h.eq c (hs c hc)
  · have h1 := List.mem_filter.1 hg
    obtain ⟨c, hc, e⟩ := h.all g h1.1
    have h2 : g.1 ≠ a.card := by simpa using h1.2
    rcases List.mem_append.1 (p.mem_iff.2 hc) with hc | hc
    · exact ⟨c, hc, e⟩
    · rw [List.mem_singleton.1 hc] at e; exact absurd e.symm h2
theorem bk_now {w : World} {base b : Nat} {S : St} {m : Nat} (h : Bk w base b S m) (n : Int) (hn : S.now ≤ n) (hn1 : n ≤ 9223372036854775807) : Bk (w.setCell ⟨b, 1, none⟩ (.int .i64 n)) base b (nowS S n) m ∧ KC w (w.setCell ⟨b, 1, none⟩ (.int .i64 n)) ∧ Below base w (w.setCell ⟨b, 1, none⟩ (.int .i64 n)) := by
  obtain ⟨cm, cn, D, av, A, h1, h2, h3, h4, h5⟩ := h
  refine ⟨⟨cm, cn, D, av, A, bkm_set h1 (most' := S.most) (now' := n) (gv' := S.gv) rfl h1.cn, h2, h3, h4, ⟨h5.m0, h5.m1, ?_, hn1, h5.g0, h5.g1, fun g hg => ?_, h5.up, h5.am, h5.nu, h5.nb⟩⟩, KC.kt (KT.set (S := fun t => t == tB) h1.hp.blk (by decide) _) sK_B, (Below.refl base w).setCell h1.hp.low _⟩
  · have := h5.n0; show 0 ≤ n; omega
  · have := h5.tk g hg; exact ⟨this.1, by show _ ≤ n; omega⟩
theorem bk_cells {w : World} {base b : Nat} {S : St} {m : Nat} (h : Bk w base b S m) : ∃ cm cn D, w.cell? ⟨b, 0, none⟩ = some (.int .i64 S.most) ∧ w.cell? ⟨b, 1, none⟩ = some (.int .i64 S.now) ∧ w.frozen? ⟨b, 1, none⟩ = false ∧ w.cell? ⟨b, 3, none⟩ = some (.map (some cm)) ∧ w.ownsMap Try.prog tStr heldP cm cn D ∧ Maps.size D = m ∧ base ≤ w.heap.size := by
  obtain ⟨cm, cn, D, av, A, h1, h2, h3, h4, h5⟩ := h
  obtain ⟨c0, c1, c2, c3, c4, fz⟩ := h1.cells
  exact ⟨cm, cn, D, c0, c1, fz 1, c3, h1.cards, h1.mp.size.trans h4, h1.hp.bas⟩
/-- the first of the heap is forgotten -/
theorem fgt_any {w : World} {base b : Nat} {S : St} {m : Nat} (h : Bk w base b S (m + 1)) : ∃ g cap gr, w.cell? ⟨b, 4, none⟩ = some (.slice (some ⟨g, 0, none⟩) (m + 1) cap) ∧ w.cell? ⟨g, 0, none⟩ = some (.pointer (some ⟨gr, 0, none⟩)) ∧ Calls Try.prog 28 #[.pointer (some ⟨b, 0, none⟩), .pointer (some ⟨gr, 0, none⟩)] w fun e w' => e = .returned (.tuple #[]) ∧ ∃ c, Min S.G c ∧ PB w base b (fgt S c) m w' := by
  obtain ⟨cm, cn, D, av, A, h1, h2, h3, h4, h5⟩ := h
  have h0 : 0 < A.length := by omega
  obtain ⟨g, cap, rfl, -⟩ := h1.hp.form h0
  have c4 := h1.hp.cell4.1
  have a0 := (h1.hp.at_ 0 h0).1
  rw [h4] at c4
  refine ⟨g, cap, A[0].gr, c4, a0, (forget_any h1 0 h0 (h2.sz _ (List.getElem_mem h0))).mono ?_⟩
  rintro e y ⟨rfl, D', av', A', M, pm, ho, kc, bl⟩
  have hl : A'.length = m := by have := pm.length_eq; rw [List.length_append, List.length_singleton] at this; omega
  refine ⟨rfl, A[0].card, ⟨?_, fun d hd => ?_⟩, ⟨cm, cn, D', av', A', M, gt_del h2 h1.mp.nd pm, ho h3, hl, iv_sub h5 List.filter_sublist⟩, kc, bl⟩
  · have hne := h2.ne _ (List.getElem_mem h0)
    rw [h2.eq _ (List.getElem_mem h0)] at hne
    obtain ⟨x, hx⟩ := List.exists_mem_of_ne_nil _ hne
    exact ⟨_, lc_mem hx, rfl⟩
  · obtain ⟨x, hx, rfl⟩ := hd
    obtain ⟨a, ha, e⟩ := h2.all x hx
    obtain ⟨j, hj, rfl⟩ := List.getElem_of_mem ha
    have := h3.min j hj
    rw [kN_get h0, kN_get hj, h2.eq _ (List.getElem_mem h0), h2.eq _ (List.getElem_mem hj), e] at this
    exact this
theorem give_any {w : World} {base b : Nat} {S : St} {m : Nat} (h : Bk w base b S m) (c : ByteArray) (hc : c.size ≤ 1000000) (u : Int) (hu : 0 ≤ u ∧ u ≤ 999999999999) (hg : S.gv < 900) (hmm : m ≤ 10000) : Calls Try.prog 27 #[.pointer (some ⟨b, 0, none⟩), .string c, .int .i64 u, .int .i64 S.now] w fun e w' => e = .returned (.tuple #[]) ∧ PB w base b (giveS S c u) (mOf S c m) w' := by
  by_cases hex : ∃ g ∈ S.G, g.1 = c
  · rw [mOf, if_pos hex]; exact give_old h c hc u hu hg hex
  · rw [mOf, if_neg hex]; exact give_new h c hc u hu hg (fun g hg e => hex ⟨g, hg, e⟩) hmm
/-- what an approval leaves -/
def PA (w : World) (base b : Nat) (S : St) (c : ByteArray) (u now : Int) (m : Nat) (y : World) : Prop := ((mOf S c m : Int) ≤ S.most ∧ PB w base b (giveS (nowS S now) c u) (mOf S c m) y) ∨ (S.most < (mOf S c m : Int) ∧ ∃ m' d, mOf S c m = m' + 1 ∧ Min (giveS (nowS S now) c u).G d ∧ PB w base b (fgt (giveS (nowS S now) c u) d) m' y)
/-- limits in a new block -/
theorem lim_cells {w x : World} {a : Nat} {s n t v : Int} (h : x.heap[a]? = some (.cells #[.int .i64 s, .int .i64 n, .int .i64 t, .int .i64 v] 36)) : x.cell? ⟨a, 0, none⟩ = some (.int .i64 s) ∧ x.cell? ⟨a, 1, none⟩ = some (.int .i64 n) ∧ x.cell? ⟨a, 2, none⟩ = some (.int .i64 t) ∧ x.cell? ⟨a, 3, none⟩ = some (.int .i64 v) := ⟨by simp [World.cell?, h], by simp [World.cell?, h], by simp [World.cell?, h], by simp [World.cell?, h]⟩
set_option maxRecDepth 100000 in
set_option maxHeartbeats 3200000 in
theorem ask_any {w : World} {base b : Nat} {S : St} {m : Nat} (h : Bk w base b S m) (l : Lm) (hl : isR l = true) (c : ByteArray) (hc : c.size ≤ 1000000) (hce : c.toList.isEmpty = false) (u now : Int) (hu : isA u = true) (hn : S.now ≤ now) (hn1 : now ≤ 9223372036854775807) (hb : bey S.G l c u now = false) (hg : S.gv < 900) (hmm : m ≤ 10000) : Calls Try.prog 15 #[.pointer (some ⟨b, 0, none⟩), lmv l, .string c, .int .i64 u, .int .i64 now] w fun e w' => e = .returned (.int .i64 0) ∧ PA w base b S c u now m w' := by
  have hu2 : 0 ≤ u ∧ u ≤ 999999999999 := by simpa [isA] using hu
  have iv := h.iv
  obtain ⟨w1, hw1⟩ : ∃ w1, w.alloc (.cells #[.int .i64 l.single, .int .i64 l.count, .int .i64 l.sum, .int .i64 l.window] 36) = w1 := ⟨_, rfl⟩
  have B1 : Below w.heap.size w w1 := hw1 ▸ below_one _ _
  have HW1 : w1.heap[w.heap.size]? = some (.cells #[.int .i64 l.single, .int .i64 l.count, .int .i64 l.sum, .int .i64 l.window] 36) := hw1 ▸ h1_0 _ _
  have HAM : Hid (∀ y, Calls Try.prog 25 #[.int .i64 u] y fun e w' => e = .returned (.bool true) ∧ w' = y) := fun y => by have := isAmount_any u y; rw [hu] at this; exact this
  have HRI : Hid (∀ y, Calls Try.prog 23 #[lmv l] y fun e w' => e = .returned (.bool true) ∧ Below y.heap.size y w') := fun y => by have := isRight_any l y; rw [hl] at this; exact this
  have HKEEP : Hid (∀ x, Below w1.heap.size w1 x → (x.cell? ⟨w.heap.size, 0, none⟩ = some (.int .i64 l.single) ∧ x.cell? ⟨w.heap.size, 1, none⟩ = some (.int .i64 l.count) ∧ x.cell? ⟨w.heap.size, 2, none⟩ = some (.int .i64 l.sum) ∧ x.cell? ⟨w.heap.size, 3, none⟩ = some (.int .i64 l.window)) ∧ x.cell? ⟨b, 1, none⟩ = some (.int .i64 S.now) ∧ x.frozen? ⟨b, 1, none⟩ = false) := fun x hx => by
    obtain ⟨cm, cn, D, e0, e1, e2, -⟩ := bk_cells (h.below (keepB B1 hx))
    exact ⟨lim_cells (w := w) (kept hx HW1), e1, e2⟩
  have HBE : Hid (∀ x, Below w1.heap.size w1 x → Calls Try.prog 26 #[.pointer (some ⟨b, 0, none⟩), lmv l, .string c, .int .i64 u, .int .i64 now] x fun e w' => e = .returned (.bool false) ∧ Below x.heap.size x w') := fun x hx => by
    have := beyond_any (h.below (keepB B1 hx)) l hl c hc u now hu2 ⟨by have := iv.n0; omega, hn1⟩
    rw [hb] at this
    exact this
  have HGI : Hid (∀ x, Below w1.heap.size w1 x → Calls Try.prog 27 #[.pointer (some ⟨b, 0, none⟩), .string c, .int .i64 u, .int .i64 now] (x.setCell ⟨b, 1, none⟩ (.int .i64 now)) fun e w' => e = .returned (.tuple #[]) ∧ PB w base b (giveS (nowS S now) c u) (mOf S c m) w') := fun x hx => by
    have b2 := keepB B1 hx
    obtain ⟨k1, k2, k3⟩ := bk_now (h.below b2) now hn hn1
    refine (give_any k1 c hc u hu2 hg hmm).mono ?_
    rintro e y ⟨rfl, p1, p2, p3⟩
    obtain ⟨-, -, -, -, -, -, -, -, -, hbs⟩ := bk_cells h
    exact ⟨rfl, p1, (KC.of b2).trans (k2.trans p2), (b2.mono hbs).trans (k3.trans p3)⟩
  have HEND : Hid (∀ y, PB w base b (giveS (nowS S now) c u) (mOf S c m) y → ∃ cm cn D, y.drew.cell? ⟨b, 0, none⟩ = some (.int .i64 S.most) ∧ y.drew.cell? ⟨b, 3, none⟩ = some (.map (some cm)) ∧ (∀ ty, (Builtin.len_ #[tMC] ty #[.map (some cm)]).run Try.prog y.drew = .ok (.int .i64 (mOf S c m : Int)) y.drew) ∧ Hid ((mOf S c m : Int) ≤ S.most → PA w base b S c u now m y.drew) ∧ (S.most < (mOf S c m : Int) → ∃ g n cap gr, y.drew.cell? ⟨b, 4, none⟩ = some (.slice (some ⟨g, 0, none⟩) (n + 1) cap) ∧ y.drew.cell? ⟨g, 0, none⟩ = some (.pointer (some ⟨gr, 0, none⟩)) ∧ Hid (Calls Try.prog 28 #[.pointer (some ⟨b, 0, none⟩), .pointer (some ⟨gr, 0, none⟩)] y.drew fun e w' => e = .returned (.tuple #[]) ∧ PA w base b S c u now m w'))) := fun y hy => by
    obtain ⟨p1, p2, p3⟩ := hy
    have p1d := p1.below ((Below.refl _ y).drew)
    obtain ⟨cm, cn, D, e0, e1, e2, e3, e4, e5, e6⟩ := bk_cells p1d
    have e6y : base ≤ y.heap.size := e6
    have pbd : PB w base b (giveS (nowS S now) c u) (mOf S c m) y.drew := ⟨p1d, p2.trans (KC.of ((Below.refl _ y).drew)), p3.trans (((Below.refl _ y).drew).mono e6y)⟩
    refine ⟨cm, cn, D, e0, e3, fun ty => ?_, fun hle => .inl ⟨hle, pbd⟩, fun hlt => ?_⟩
    · have := e4.len Try.underlying64 ty
      rw [e5] at this
      exact this
    · have hm0 := iv.m0
      obtain ⟨m', hm'⟩ : ∃ m', mOf S c m = m' + 1 := ⟨mOf S c m - 1, by omega⟩
      rw [hm'] at p1d
      obtain ⟨g, cap, gr, f1, f2, f3⟩ := fgt_any p1d
      refine ⟨g, m', cap, gr, f1, f2, f3.mono ?_⟩
      rintro e z ⟨rfl, d, hmin, r1, r2, r3⟩
      exact ⟨rfl, .inr ⟨hlt, m', d, hm', hmin, r1, pbd.2.1.trans r2, pbd.2.2.trans r3⟩⟩
  have qn : S.now ≤ now := hn
  obtain ⟨k0, k1, k2⟩ := HKEEP.out w1 (Below.refl _ _)
  obtain ⟨M', hM'⟩ : ∃ M' : Nat, mOf S c m = M' := ⟨_, rfl⟩
  obtain ⟨o0, o1, o2, o3⟩ := k0
  obtain ⟨s, n, t, v⟩ := l
  unfold lmv at *
  dsimp only at *
  clear h hl hc hu hn hn1 hb hg hmm hu2 iv B1 HW1
  go_enter Try.func15, Try.ntmps15
  go_wp2_with fail
  refine (HAM.out _).mono ?_
  rintro e y ⟨rfl, rfl⟩
  go_wp2_with fail
  refine (HRI.out _).mono ?_
  rintro e y2 ⟨rfl, hy2⟩
  have HY2 : Hid (Below y.heap.size y y2) := hy2
  obtain ⟨⟨o0, o1, o2, o3⟩, k1, k2⟩ := HKEEP.out y2 hy2
  clear hy2
  go_wp2_with fail
  refine (HBE.out y2 HY2.out).mono ?_
  rintro e y3 ⟨rfl, hy3⟩
  have HY3 : Hid (Below y.heap.size y y3) := keepB HY2.out hy3
  obtain ⟨-, k1, k2⟩ := HKEEP.out y3 HY3.out
  clear hy3
  go_wp2_with fail
  refine (HGI.out y3 HY3.out).mono ?_
  rintro e y4 ⟨rfl, hy4⟩
  obtain ⟨cm, cn, D, g0, g3, glen, HLE, hgt⟩ := HEND.out y4 hy4
  have hlen := glen 3
  clear hy4 glen
  by_cases hcmp : S.most < (mOf S c m : Int)
  · obtain ⟨g, n', cap, gr, g4, ga, HF⟩ := hgt hcmp
    rw [hM'] at hcmp hlen
    clear HLE hgt
    have q0 : (0 : Int) < ((n' + 1 : Nat) : Int) := by omega
    go_wp2_with fail
    go_region_with (fail)
    all_goals (go_wp2_with fail)
    all_goals (refine HF.out.mono ?_; rintro e z ⟨rfl, hz⟩)
    all_goals (go_wp2_with fail)
    all_goals go_ret
    all_goals exact ⟨rfl, hz⟩
  · have HPA := HLE.out (by omega)
    have HPA2 : Hid (PA w base b S c u now m y4.drew) := HPA
    rw [hM'] at hcmp hlen
    have hc2 : (M' : Int) ≤ S.most := by omega
    clear HLE hgt HPA hcmp
    go_wp2_with fail
    go_region_with (fail)
    all_goals (go_wp2_with fail)
    all_goals go_ret
    all_goals exact ⟨rfl, HPA2.out⟩
end Go.Proofs.Ytmaikkhemhonhaa.Dy
