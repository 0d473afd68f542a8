/- StandinForgets, plain: the law's row of cards, that whose last approval is the oldest first. -/
import Derived.Test.YtmaikkhemhonhaaEk
namespace Go.Proofs.Ytmaikkhemhonhaa.En
set_option linter.unusedVariables false
set_option linter.unusedSimpArgs false
open Go.RowKit Go.Maps Lib0 Kb Xp Da Db Dc Dd De Df Dh Di Dj Dk Dl Dm Dn Dp Dq Dr Ds Dt Du Dv Dw Dy Dz Ea Eb Ec Ed Ej
structure Rw (S : St) (R : List ByteArray) : Prop where
  mem : ∀ c, c ∈ R ↔ ∃ g ∈ S.G, g.1 = c
  up : R.Pairwise fun a b => lastN (lc S.G a) < lastN (lc S.G b)
theorem lc_ne {G : List Ga} {c : ByteArray} (h : ∃ g ∈ G, g.1 = c) : 0 < (lc G c).length := by
  obtain ⟨g, hg, rfl⟩ := h
  apply List.length_pos_of_mem (a := g.2)
  unfold lc
  exact List.mem_map.2 ⟨g, List.mem_filter.2 ⟨hg, by simp⟩, rfl⟩
theorem last_le {S : St} (hi : Iv S) {c : ByteArray} (h : ∃ g ∈ S.G, g.1 = c) : lastN (lc S.G c) ≤ S.gv := by
  have hp := lc_ne h
  rw [lastN_get hp]
  exact (hi.nb _ (lc_mem (List.getElem_mem (by omega)))).2
theorem last_snoc (L : List Ap) (x : Ap) : lastN (L ++ [x]) = x.1 := by
  rw [lastN_get (by simp)]
  simp
theorem rw_nil (S : St) (h : S.G = []) : Rw S [] := ⟨fun c => by simp [h], List.Pairwise.nil⟩
theorem rw_give {S : St} (hi : Iv S) {R : List ByteArray} (h : Rw S R) (c : ByteArray) (u now : Int) : Rw (giveS (nowS S now) c u) (R.filter (fun d => decide (d ≠ c)) ++ [c]) := by
  have hG : (giveS (nowS S now) c u).G = S.G ++ [(c, (S.gv + 1, u, now))] := rfl
  refine ⟨fun d => ?_, ?_⟩
  · rw [hG]
    by_cases e : d = c
    · subst e; simp
    · have := h.mem d
      constructor
      · intro hd
        have hd2 : d ∈ R := by simpa [e] using hd
        obtain ⟨g, hg, hgd⟩ := this.1 hd2
        exact ⟨g, List.mem_append_left _ hg, hgd⟩
      · rintro ⟨g, hg, hgd⟩
        rcases List.mem_append.1 hg with h1 | h1
        · have := this.2 ⟨g, h1, hgd⟩
          simp [this, e]
        · rw [List.mem_singleton] at h1
          subst h1
          exact absurd hgd.symm e
  · rw [hG, List.pairwise_append]
    refine ⟨?_, List.pairwise_singleton _ _, fun a ha b hb => ?_⟩
    · refine ((h.up.filter _).imp_of_mem (fun {a b} ha hb hab => ?_))
      have e1 : c ≠ a := fun e => by simp [e] at ha
      have e2 : c ≠ b := fun e => by simp [e] at hb
      rw [lc_other _ _ _ _ e1, lc_other _ _ _ _ e2]
      exact hab
    · rw [List.mem_singleton] at hb
      subst hb
      have e1 : b ≠ a := fun e => by simp [e] at ha
      have hm : a ∈ R := (List.mem_filter.1 ha).1
      rw [lc_other _ _ _ _ e1, lc_snoc, last_snoc]
      have := last_le hi ((h.mem a).1 hm)
      show _ < S.gv + 1
      omega
theorem rw_min {S : St} {d : ByteArray} {R : List ByteArray} (h : Rw S (d :: R)) {e : ByteArray} (hm : Min S.G e) : e = d := by
  have he := (h.mem e).2 hm.1
  have hd := hm.2 d ((h.mem d).1 (List.mem_cons_self ..))
  rcases List.mem_cons.1 he with r | r
  · exact r
  · have := (List.pairwise_cons.1 h.up).1 e r
    omega
theorem rw_fgt {S : St} {d : ByteArray} {R : List ByteArray} (h : Rw S (d :: R)) : Rw (fgt S d) R := by
  have hu := List.pairwise_cons.1 h.up
  have hne : ∀ a ∈ R, a ≠ d := fun a ha e => by have := hu.1 a ha; rw [e] at this; omega
  refine ⟨fun c => ?_, ?_⟩
  · have := h.mem c
    constructor
    · intro hc
      obtain ⟨g, hg, hgc⟩ := this.1 (List.mem_cons_of_mem _ hc)
      exact ⟨g, List.mem_filter.2 ⟨hg, by rw [hgc]; simpa using hne c hc⟩, hgc⟩
    · rintro ⟨g, hg, hgc⟩
      have h1 := List.mem_filter.1 hg
      have h2 : g.1 ≠ d := of_decide_eq_true h1.2
      rcases List.mem_cons.1 (this.2 ⟨g, h1.1, hgc⟩) with r | r
      · exact absurd (hgc.trans r) h2
      · exact r
  · refine hu.2.imp_of_mem (fun {a b} ha hb hab => ?_)
    show lastN (lc (S.G.filter _) a) < lastN (lc (S.G.filter _) b)
    rw [lc_filter _ _ _ (hne a ha), lc_filter _ _ _ (hne b hb)]
    exact hab
theorem rw_gone (S : St) (d : ByteArray) : lc (fgt S d).G d = [] := lc_none (fun g hg => of_decide_eq_true (List.mem_filter.1 hg).2)
/-- how many approvals each card of the row has -/
def mny (S : St) (R : List ByteArray) : List Int := R.map fun c => ((lc S.G c).length : Int)
theorem mny_fgt {S : St} {d : ByteArray} {R : List ByteArray} (h : Rw S (d :: R)) : mny (fgt S d) R = (mny S (d :: R)).tail := by
  have hu := List.pairwise_cons.1 h.up
  unfold mny
  rw [List.map_cons, List.tail_cons]
  apply List.map_congr_left
  intro a ha
  have : a ≠ d := fun e => by have := hu.1 a ha; rw [e] at this; omega
  show ((lc (S.G.filter _) a).length : Int) = _
  rw [lc_filter _ _ _ this]
theorem rw_nd {S : St} {R : List ByteArray} (h : Rw S R) : R.Pairwise fun a b => a ≠ b := h.up.imp (fun {a b} hab e => by rw [e] at hab; omega)
theorem len_filter {R : List ByteArray} (h : R.Pairwise fun a b => a ≠ b) (c : ByteArray) (hc : c ∈ R) : (R.filter (fun d => decide (d ≠ c))).length + 1 = R.length := by
  induction R with
  | nil => cases hc
  | cons a R ih =>
    have hp := List.pairwise_cons.1 h
    by_cases e : a = c
    · subst e
      have : R.filter (fun d => decide (d ≠ a)) = R := List.filter_eq_self.2 (fun d hd => by simpa using (hp.1 d hd).symm)
      rw [List.filter_cons_of_neg (by simp), this]
      rfl
    · have hr : c ∈ R := by
        rcases List.mem_cons.1 hc with r | r
        · exact absurd r.symm e
        · exact r
      rw [List.filter_cons_of_pos (by simpa using e), List.length_cons, List.length_cons, ih hp.2 hr]
theorem rw_len {S : St} {R : List ByteArray} (h : Rw S R) (c : ByteArray) : (R.filter (fun d => decide (d ≠ c)) ++ [c]).length = mOf S c R.length := by
  rw [List.length_append, List.length_singleton]
  unfold mOf
  by_cases hc : ∃ g ∈ S.G, g.1 = c
  · rw [if_pos hc]
    exact len_filter (rw_nd h) c ((h.mem c).2 hc)
  · rw [if_neg hc]
    have : R.filter (fun d => decide (d ≠ c)) = R := List.filter_eq_self.2 (fun d hd => by
      have : d ≠ c := fun e => hc ((h.mem c).1 (e ▸ hd))
      simpa using this)
    rw [this]
theorem mny_give {S : St} {R : List ByteArray} (c : ByteArray) (u now : Int) : mny (giveS (nowS S now) c u) (R.filter (fun d => decide (d ≠ c)) ++ [c]) = mny S (R.filter (fun d => decide (d ≠ c))) ++ [((lc S.G c).length : Int) + 1] := by
  unfold mny
  rw [List.map_append]
  congr 1
  · apply List.map_congr_left
    intro a ha
    have e1 : c ≠ a := fun e => by simp [e] at ha
    show ((lc (S.G ++ [(c, _)]) a).length : Int) = _
    rw [lc_other _ _ _ _ e1]
  · show [((lc (S.G ++ [(c, _)]) c).length : Int)] = _
    rw [lc_snoc, List.length_append]
    simp
theorem cnt_all : ∀ (G : List Ga) (c : ByteArray) (t : Int), (∀ g ∈ G, t ≤ g.2.2.2) → cnt G c t = ((lc G c).length : Int)
  | [], _, _, _ => by simp [cnt, lc, la]
  | g :: G, c, t, h => by
    have ih := cnt_all G c t (fun g hg => h g (List.mem_cons_of_mem _ hg))
    have h0 := h g (List.mem_cons_self ..)
    rw [cnt_cons, ih]
    unfold one1
    by_cases e : g.1 = c
    · simp [lc, e, h0]; omega
    · simp [lc, e]
theorem smm_all : ∀ (G : List Ga) (c : ByteArray) (t : Int), (∀ g ∈ G, t ≤ g.2.2.2 ∧ g.2.2.1 = 1) → smm G c t = ((lc G c).length : Int)
  | [], _, _, _ => by simp [smm, lc, la, uS]
  | g :: G, c, t, h => by
    have ih := smm_all G c t (fun g hg => h g (List.mem_cons_of_mem _ hg))
    have h0 := h g (List.mem_cons_self ..)
    rw [smm_cons, ih]
    unfold one1
    by_cases e : g.1 = c
    · simp [lc, e, h0]; omega
    · simp [lc, e]
def lF : Lm := ⟨10, 1000, 100000, 100000⟩
theorem bey_no {S : St} (hi : Iv S) (h1 : ∀ g ∈ S.G, g.2.2.1 = 1) (hg : S.G.length ≤ 150) (c : ByteArray) (now : Int) (hn : now ≤ 150) : bey S.G lF c 1 now = false := by
  have ha : ∀ g ∈ S.G, now - lF.window + 1 ≤ g.2.2.2 ∧ g.2.2.1 = 1 := fun g hg => ⟨by have := (hi.tk g hg).1; show now - 100000 + 1 ≤ _; omega, h1 g hg⟩
  have hl := lc_len S.G c
  unfold bey
  rw [cnt_all _ _ _ (fun g hg => (ha g hg).1), smm_all _ _ _ ha]
  rw [Bool.or_eq_false_iff, Bool.or_eq_false_iff]
  refine ⟨⟨decide_eq_false (by show ¬ (10 : Int) < 1; omega), decide_eq_false ?_⟩, decide_eq_false ?_⟩
  · show ¬ (1000 : Int) ≤ _
    omega
  · show ¬ (100000 : Int) < _
    omega
end Go.Proofs.Ytmaikkhemhonhaa.En
