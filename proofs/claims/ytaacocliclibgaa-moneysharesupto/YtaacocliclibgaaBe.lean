/- The book takes a list. -/
import Derived.Test.YtaacocliclibgaaBd
import Derived.Deep.RegionLaw
import Derived.BigRegion
namespace Go.Proofs.Ytaacocliclibgaa.Be
set_option linter.unusedVariables false
set_option linter.unusedSimpArgs false
open Go.RowKit Sl Kb Ow Ds Bb Bc Bd
theorem infoL : (Try.prog.info? 32).map (fun i => (i.zero, i.size, i.bytes)) = some (some (.slice none 0 0), 1, 24) := by kernel_rfl
theorem owns_slice {w : World} {b e n : Nat} {v : Value} {xs : List Value} (h : w.ownsRow b e 1 v n xs) : ∃ o c, v = .slice o n c := by
  rcases owns_form h with ⟨rfl, rfl⟩ | ⟨g, c, rfl, _⟩
  · exact ⟨_, _, rfl⟩
  · exact ⟨_, _, rfl⟩
theorem cells3 {w : World} {g : Nat} {a b c : Value} {t : TypeId} (h : w.heap[g]? = some (.cells #[a, b, c] t)) :
    (w.cell? ⟨g, 0, none⟩ = some a ∧ w.cell? ⟨g, 1, none⟩ = some b ∧ w.cell? ⟨g, 2, none⟩ = some c) ∧ (w.frozen? ⟨g, 0, none⟩ = false ∧ w.frozen? ⟨g, 1, none⟩ = false ∧ w.frozen? ⟨g, 2, none⟩ = false) := by
  refine ⟨⟨?_, ?_, ?_⟩, ?_, ?_, ?_⟩ <;> simp [World.cell?, World.frozen?, h]
theorem fpush_keep {w0 w y : World} {base gB : Nat} {Pr : List (Nat × Obj)} {F W : List (Value × List Int)} {L : List (Value × Int)} {vf vw vl : Value} (S : Bk w0 w base gB Pr F W L vf vw vl) {o : Obj} (gr : (w.alloc o).grownBy y vf.ownBlock) (u : Value) {b : Nat} {v : Value} {z : List Int} (h : Own w b v z) : Own (y.setCell ⟨gB, 0, none⟩ u) b v z :=
  keepK S.blk (q := vf.ownBlock) (fun b h1 h2 h3 => (sc_ne (Ne.symm h2) _ _).trans (al_block gr b h1 h3)) h (by decide) fun p hp => ty_ne h S.frow (by decide) hp
theorem un_drew {w y : World} {q : Option Nat} (h : w.drew.grownBy y q) : w.grownBy y q := ⟨h.os, h.tape, h.output, h.size, h.block⟩
theorem bel_none {w y : World} (h : w.grownBy y none) : Below w.heap.size w y := ⟨h.os, h.tape, h.output, h.size, fun k hk => h.block k hk (by simp)⟩
theorem own_of {w : World} {base n : Nat} {g c : Nat} {z : List Int} (hn : z.length = n) (h : w.ownsRow base 3 1 (.slice (some ⟨g, 0, none⟩) (0 + n) c) (0 + n) ([] ++ iv z)) : Own w base (.slice (some ⟨g, 0, none⟩) n c) z := by
  unfold Own
  rw [hn]
  rw [Nat.zero_add] at h
  exact h
theorem own_news {w : World} {b g n c : Nat} {z : List Int} (h : w.ownsRow b 3 1 (.slice (some ⟨g, 0, none⟩) n c) n (iv z)) : ∀ j u, (iv z)[j]? = some u → w.cell? ((⟨g, 0, none⟩ : Addr).add j) = some u := fun j u hu => by
  rw [Ow.add0]; exact (own_cell h hu).1
set_option maxRecDepth 100000 in
set_option maxHeartbeats 3200000 in
theorem takes_any {w0 w : World} {base gB : Nat} {Pr : List (Nat × Obj)} {F W : List (Value × List Int)} {L : List (Value × Int)} {vf vw vl : Value} (S : Bk w0 w base gB Pr F W L vf vw vl)
    (z : List Int) (va vc : Value) (bc : Nat) (hF : F.length ≤ 7) (hW : W.length ≤ 7) (hz : z.length ≤ 100) (ha : Own w base va z) (hc : Own w bc vc z) (hf1 : ∀ p ∈ F, ∀ g, p.1.ownBlock = some g → va.ownBlock ≠ some g) (hf2 : ∀ q ∈ L, ∀ g, q.1.ownBlock = some g → va.ownBlock ≠ some g) (hf3 : Fre Pr va) (hcn : z = [] → vc = .slice none 0 0) :
    Calls Try.prog 12 #[.pointer (some ⟨gB, 0, none⟩), va, vc] w fun e w' => e = .returned (.tuple #[]) ∧ ∃ vf' vw' vn, Bk w0 w' base gB Pr (F ++ [(va, z)]) (W ++ [(vn, z)]) L vf' vw' vl := by
  obtain ⟨j0, hj, jz0, jz1, jz2⟩ := info_parts infoL
  obtain ⟨i0, hi, hz0, hz1, hz2⟩ := info_parts info3'
  have HS : Hid (Bk w0 w base gB Pr F W L vf vw vl) := S
  have HA : Hid (Own w base va z) := ha
  have HCW : Hid (Own w bc vc z) := hc
  have Hf1 : Hid (∀ p ∈ F, ∀ g, p.1.ownBlock = some g → va.ownBlock ≠ some g) := hf1
  have Hf2 : Hid (∀ q ∈ L, ∀ g, q.1.ownBlock = some g → va.ownBlock ≠ some g) := hf2
  have Hf3 : Hid (Fre Pr va) := hf3
  have fr := S.frow
  have hs : base ≤ w.heap.size := Nat.le_trans S.low S.fr.size
  obtain ⟨⟨cf, cw, cl⟩, ff, fw, fl⟩ := cells3 S.blk
  obtain ⟨N, HN⟩ : ∃ N, Hid (z.length = N) := ⟨_, rfl⟩
  obtain ⟨n, HFn⟩ : ∃ n, Hid (F.length = n) := ⟨_, rfl⟩
  obtain ⟨nw, HWn⟩ : ∃ n, Hid (W.length = n) := ⟨_, rfl⟩
  obtain ⟨ao, ac, eva⟩ := owns_slice ha
  obtain ⟨co, cc, evc⟩ := owns_slice hc
  obtain ⟨fo, fc, evf⟩ := owns_slice S.frow
  rw [HN.out] at eva evc
  rw [HFn.out] at fr hF evf
  rw [HWn.out] at hW
  have hn7 : (n : Int) ≤ 7 := by omega
  have hN1 : N ≤ 100 := by have := HN.out; omega
  subst eva; subst evc; subst evf
  clear S ha hc hf1 hf2 hf3 hz
  go_enter Try.func12, Try.ntmps12
  go_wp2_with (at_builtin; refine wpList_append_lies _ rfl _ _ _ rfl base 32 j0 _ 1 24 Try.underlying35 hj jz0 jz1 jz2 rfl (by omega) _ n _ rfl (fr.alloc _) ⟨w.heap.size, 0, none⟩ 1 1 _ rfl (by rfl) (World.news_of_block (heap_alloc_new w _)) (by simp [Value.oneCell']) (by omega) (by unfold maxLen; omega) (by omega) (by simp; omega) (w.heap.size + 1) (by simp) ?_; intro gf cf2 w1 hown1 hgrow1 hat1 hlt1; have S1 := HS.out.fpush (z := z) (by rw [HFn.out]) (by rw [HFn.out]; omega) (by rw [HN.out]; omega) HA.out Hf1.out Hf2.out Hf3.out hgrow1 hown1 hat1; have hb1 : w1.heap[gB]? = _ := (al_block hgrow1 gB (Array.getElem?_eq_some_iff.1 HS.out.blk).1 (bk_ne HS.out.blk HS.out.frow (by decide))).trans HS.out.blk; obtain ⟨⟨cf1, cw1, cl1⟩, ff1, fw1, fl1⟩ := cells3 hb1; have O1 := fpush_keep HS.out hgrow1 (.slice (some ⟨gf, 0, none⟩) (n + 1) cf2) HCW.out)
  have HS1 : Hid (Bk w0 (w1.setCell ⟨gB, 0, none⟩ (.slice (some ⟨gf, 0, none⟩) (n + 1) cf2)) base gB Pr (F ++ [(.slice ao N ac, z)]) W L (.slice (some ⟨gf, 0, none⟩) (n + 1) cf2) vw vl) := S1
  have HO1 : Hid (Own (w1.setCell ⟨gB, 0, none⟩ (.slice (some ⟨gf, 0, none⟩) (n + 1) cf2)) bc (.slice co N cc) z) := O1
  clear S1 O1 hb1 cf1 cw1 cl1 ff1 fw1 fl1 hown1 hgrow1 hat1 hlt1 HS HA HCW Hf1 Hf2 Hf3 fr cf cw cl ff fw fl hs
  generalize w1.setCell ⟨gB, 0, none⟩ (.slice (some ⟨gf, 0, none⟩) (n + 1) cf2) = x at *
  obtain ⟨⟨-, cw, -⟩, -, fw, -⟩ := cells3 HS1.out.blk
  have hs : base ≤ x.heap.size := Nat.le_trans HS1.out.low HS1.out.fr.size
  have wr := HS1.out.wrow
  rw [HWn.out] at wr
  obtain ⟨wo, wc, evw⟩ := owns_slice wr
  subst evw
  rcases Nat.eq_zero_or_pos N with h0 | h0
  · subst h0
    have ez : z = [] := List.length_eq_zero_iff.1 HN.out
    have en := hcn ez
    injection en with en1 en2 en3
    subst en1; subst en3
    clear hcn
    have hst : ∀ (y2 : World) (o : Obj), (x.alloc o).grownBy y2 (Value.slice wo nw wc).ownBlock → y2.cell? ⟨gB, 1, none⟩ = some (.slice wo nw wc) ∧ y2.frozen? ⟨gB, 1, none⟩ = false := fun y2 o h2 => by
      have hb2 := (al_block h2 gB (Array.getElem?_eq_some_iff.1 HS1.out.blk).1 (bk_ne HS1.out.blk HS1.out.wrow (by decide))).trans HS1.out.blk
      obtain ⟨⟨-, c3, -⟩, -, f3, -⟩ := cells3 hb2
      exact ⟨c3, f3⟩
    have cy2 : ∀ o, (x.alloc o).cell? ⟨gB, 1, none⟩ = some (.slice wo nw wc) := fun o => (cells3 (kept (below_one x o) HS1.out.blk)).1.2.1
    have hn7w : (nw : Int) ≤ 7 := by omega
    go_region_law ((refine step_append_lies _ (by rfl) _ _ _ (by rfl) base 32 j0 _ 1 24 Try.underlying35 hj jz0 jz1 jz2 rfl (by omega) _ nw _ (by rfl) ((wr.alloc _).drew) ⟨x.heap.size, 0, none⟩ 1 1 _ (by rfl) (by rfl) (World.news_of_block (heap_alloc_new x _)) (by simp [Value.oneCell']) (by omega) (by unfold maxLen; omega) (by omega) (by simp; omega) (x.heap.size + 1) (by simp) ?_; intro gw cw2 y2 hown2 hgrow2 hat2 hlt2; obtain ⟨cw3, fw3⟩ := hst y2 _ (un_drew hgrow2)))
    all_goals go_end0
    all_goals exact ⟨rfl, _, _, _, HS1.out.wpush (by rw [HWn.out]) (by rw [ez]; exact own_nil _ _ _) (un_drew hgrow2) hown2 hat2⟩
  · obtain ⟨gc, ec⟩ : ∃ gc, co = some ⟨gc, 0, none⟩ := by
      rcases owns_form HO1.out with ⟨e, _⟩ | ⟨g, c, e, _⟩
      · injection e with e1 e2 e3; omega
      · injection e with e1 e2 e3; exact ⟨g, e1⟩
    subst ec
    have HO2 : Hid (x.ownsRow bc 3 1 (.slice (some ⟨gc, 0, none⟩) N cc) N (iv z)) := by
      have := HO1.out
      unfold Own at this
      rw [HN.out] at this
      exact this
    have hlz : (iv z).length = N * 1 := by rw [iv_length, HN.out]; omega
    have hn7w : (nw : Int) ≤ 7 := by omega
    have hwn : ∀ y, x.drew.grownBy y (Value.slice none 0 0).ownBlock → y.ownsRow base 32 1 (.slice wo nw wc) nw (W.map (·.1)) := fun y h => owns_keep wr fun p hp => (h.block p (wr.lt p hp).2 (by simp [Value.ownBlock])).trans rfl
    have HSY : ∀ y1, x.drew.grownBy y1 (Value.slice none 0 0).ownBlock → Bk w0 y1 base gB Pr (F ++ [(.slice ao N ac, z)]) W L (.slice (some ⟨gf, 0, none⟩) (n + 1) cf2) (.slice wo nw wc) vl := fun y1 h => HS1.out.below (bel_none (un_drew h))
    have hst : ∀ (y1 y2 : World) (o : Obj), x.drew.grownBy y1 (Value.slice none 0 0).ownBlock → (y1.alloc o).grownBy y2 (Value.slice wo nw wc).ownBlock → y2.cell? ⟨gB, 1, none⟩ = some (.slice wo nw wc) ∧ y2.frozen? ⟨gB, 1, none⟩ = false := fun y1 y2 o h1 h2 => by
      have SY := HSY y1 h1
      have hb2 := (al_block h2 gB (Array.getElem?_eq_some_iff.1 SY.blk).1 (bk_ne SY.blk SY.wrow (by decide))).trans SY.blk
      obtain ⟨⟨-, c3, -⟩, -, f3, -⟩ := cells3 hb2
      exact ⟨c3, f3⟩
    have hld : ∀ (y1 : World), x.drew.grownBy y1 (Value.slice none 0 0).ownBlock → y1.cell? ⟨gB, 1, none⟩ = some (.slice wo nw wc) ∧ ∀ o, (y1.alloc o).cell? ⟨gB, 1, none⟩ = some (.slice wo nw wc) := fun y1 h1 => by
      have SY := HSY y1 h1
      exact ⟨(cells3 SY.blk).1.2.1, fun o => (cells3 (kept (below_one y1 o) SY.blk)).1.2.1⟩
    replace HSY : Hid (∀ y1, x.drew.grownBy y1 (Value.slice none 0 0).ownBlock → Bk w0 y1 base gB Pr (F ++ [(.slice ao N ac, z)]) W L (.slice (some ⟨gf, 0, none⟩) (n + 1) cf2) (.slice wo nw wc) vl) := HSY
    go_region_law (first
      | (refine step_append_lies _ (by rfl) _ _ _ (by rfl) base 3 i0 _ 1 8 Try.underlying32 hi hz0 hz1 hz2 rfl (by omega) _ 0 _ (by rfl) (own_nil _ _ _) ⟨gc, 0, none⟩ N cc (iv z) (by rfl) hlz (own_news HO2.out) (iv_one z) (by omega) (by unfold maxLen; omega) (by omega) hs x.heap.size rfl ?_; intro gn cn y1 hownN hgrowN hatN hltN; obtain ⟨cy1, cy2⟩ := hld y1 hgrowN)
      | (refine step_append_lies _ (by rfl) _ _ _ (by rfl) base 32 j0 _ 1 24 Try.underlying35 hj jz0 jz1 jz2 rfl (by omega) _ nw _ (by rfl) (((hwn y1 hgrowN).alloc _).drew) ⟨y1.heap.size, 0, none⟩ 1 1 _ (by rfl) (by rfl) (World.news_of_block (heap_alloc_new y1 _)) (by simp [Value.oneCell']) (by omega) (by unfold maxLen; omega) (by omega) (by have := hgrowN.size; simp; simp at this; omega) (y1.heap.size + 1) (by simp) ?_; intro gw cw2 y2 hown2 hgrow2 hat2 hlt2; obtain ⟨cw3, fw3⟩ := hst y1 y2 _ hgrowN hgrow2))
    all_goals go_end0
    all_goals exact ⟨rfl, _, _, _, (HSY.out y1 hgrowN).wpush (by rw [HWn.out]) (own_of HN.out hownN) hgrow2 hown2 hat2⟩
end Go.Proofs.Ytaacocliclibgaa.Be
