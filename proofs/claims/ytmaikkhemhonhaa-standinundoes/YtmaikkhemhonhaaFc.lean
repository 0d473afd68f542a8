/- StandinUndoes, plain: what is given and taken back at once. -/
import Derived.Test.YtmaikkhemhonhaaFb
import Derived.Test.YtmaikkhemhonhaaEk
namespace Go.Proofs.Ytmaikkhemhonhaa.Fc
set_option linter.unusedVariables false
set_option linter.unusedSimpArgs false
open Go.RowKit Go.Maps Lib0 Kb Xp Da Db Dc Dd De Df Dh Di Dj Dk Dl Dm Dn Dp Dq Dr Ds Dt Du Dv Dw Dy Dz Ea Eb Ec Ed Ee Ef Eg Eh Ei Ej Ek Fa Fb
theorem rmG_last : ∀ (G : List Ga) (c : ByteArray) (x : Ap), rmG (G ++ [(c, x)]) c (lc G c).length = G
  | [], c, x => by simp [rmG, lc]
  | g :: G, c, x => by
    have ih := rmG_last G c x
    by_cases e : g.1 = c
    · have e1 : (lc (g :: G) c).length = (lc G c).length + 1 := by simp [lc, e]
      rw [e1]
      simp [rmG, e, ih]
    · have e1 : lc (g :: G) c = lc G c := by simp [lc, e]
      rw [e1]
      simp [rmG, e, ih]
def backS (S : St) (now : Int) : St := ⟨S.most, now, S.gv + 1, S.G⟩
theorem undo_given {y : World} {base b : Nat} {S : St} {m : Nat} (c : ByteArray) (hc : c.size ≤ 1000000) (u now : Int) (h : Bk y base b (giveS (nowS S now) c u) (mOf S c m)) (hn : ∀ g ∈ S.G, g.2.2.1 ≠ u) : Calls Try.prog 17 #[.pointer (some ⟨b, 0, none⟩), .string c, .int .i64 u, .int .i64 now] y fun e z => e = .returned (.bool true) ∧ PB y base b (backS S now) m z := by
  have hG : (giveS (nowS S now) c u).G = S.G ++ [(c, (S.gv + 1, u, now))] := rfl
  have hlc : lc (giveS (nowS S now) c u).G c = lc S.G c ++ [(S.gv + 1, u, now)] := by rw [hG, lc_snoc]
  have hF : Fst (lc (giveS (nowS S now) c u).G c) u now (lc S.G c).length := by
    rw [hlc]
    refine ⟨by simp, ?_, fun j hj hjp => ?_⟩
    · rw [List.getElem_append_right (Nat.le_refl _)]
      simp [Eb.mt]
    · rw [List.getElem_append_left hjp]
      intro hm
      exact hn _ (lc_mem (List.getElem_mem hjp)) hm.1
  by_cases hex : ∃ g ∈ S.G, g.1 = c
  · have hpos : 0 < (lc S.G c).length := by
      obtain ⟨g, hg, rfl⟩ := hex
      exact List.length_pos_of_mem (List.mem_map.2 ⟨g, List.mem_filter.2 ⟨hg, by simp⟩, rfl⟩)
    have hm : mOf S c m = m := by unfold mOf; rw [if_pos hex]
    rw [hm] at h
    refine (undo_mid h c hc u now _ hF (by rw [hlc, List.length_append, List.length_singleton]; omega)).mono ?_
    rintro e z ⟨rfl, hz⟩
    have e9 : rmS (giveS (nowS S now) c u) c (lc S.G c).length = backS S now := by
      show (⟨_, _, _, rmG (S.G ++ [(c, (S.gv + 1, u, now))]) c (lc S.G c).length⟩ : St) = _
      rw [rmG_last]; rfl
    rw [e9] at hz
    exact ⟨rfl, hz⟩
  · have hnil : lc S.G c = [] := lc_none (fun g hg e => hex ⟨g, hg, e⟩)
    have hm : mOf S c m = m + 1 := by unfold mOf; rw [if_neg hex]
    rw [hm] at h
    rw [hnil] at hF
    refine (undo_last h c hc u now hF (by rw [hlc, hnil]; rfl)).mono ?_
    rintro e z ⟨rfl, hz⟩
    have e9 : fgt (giveS (nowS S now) c u) c = backS S now := by
      show (⟨_, _, _, (S.G ++ [(c, (S.gv + 1, u, now))]).filter fun g => decide (g.1 ≠ c)⟩ : St) = _
      have : (S.G ++ [(c, (S.gv + 1, u, now))]).filter (fun g => decide (g.1 ≠ c)) = S.G := by
        rw [List.filter_append, List.filter_eq_self.2 (fun g hg => by simpa using fun e => hex ⟨g, hg, e⟩)]
        simp
      rw [this]; rfl
    rw [e9] at hz
    exact ⟨rfl, hz⟩
theorem non_of {S : St} (c : ByteArray) (u t : Int) (hn : ∀ g ∈ S.G, g.2.2.1 ≠ u) : Non (lc S.G c) u t := fun x hx hm => hn _ (lc_mem hx) hm.1
end Go.Proofs.Ytmaikkhemhonhaa.Fc
