/- A wheel of *turnstile/pending.held: fitted. -/
import Derived.Test.YtgchdjjafgkcbaaHh
namespace Go.Proofs.Ytgchdjjafgkcbaa.Kh
set_option linter.unusedVariables false
set_option linter.unusedSimpArgs false
open Go.RowKit Go.Maps Lib0 Kb Xp Ih Dh Eh Fh Gh Hh
attribute [local go_sem] Oper.semAt_some
set_option maxRecDepth 100000 in
set_option maxHeartbeats 1600000 in
theorem fitted_any (w : World) (v : Value) (Z : LT) (h : w.ownsRow 0 tL 3 v Z.length (gc Z)) (ho : One Z) (hl : Z.length ≤ 5864062014805) :
    Calls Try.prog 55 #[v] w fun e w' => ∃ v', e = .returned v' ∧ w'.ownsRow 0 tL 3 v' Z.length (gc Z) ∧ (v'.ownBlock = v.ownBlock ∨ ∀ g, v'.ownBlock = some g → w.heap.size ≤ g) ∧ Below w.heap.size w w' := by
  obtain ⟨i0, hi, hz0, hz1, hz2⟩ := info_parts infoL
  have HH : Hid (w.ownsRow 0 tL 3 v Z.length (gc Z)) := h
  have HO : Hid (One Z) := ho
  rcases h.2 with ⟨rfl, h0⟩ | ⟨gb, cap, cur, rfl, hbase, hg, hcap, hml, hcs, htk⟩
  · have e : Z = [] := List.eq_nil_of_length_eq_zero h0
    subst e
    clear h ho hl h0
    go_enter Try.func55, Try.ntmps55
    go_wp2_with fail
    go_ret
    exact ⟨_, rfl, World.ownsRow_nil _ _ _ _, .inl rfl, Below.refl _ _⟩
  · obtain ⟨N, HN⟩ : ∃ N, Hid (Z.length = N) := ⟨_, rfl⟩
    rw [HN.out] at h hl hcap
    rw [HN.out]
    have HNEW : Hid (∀ j u, (gc Z)[j]? = some u → w.cell? ((⟨gb, 0, none⟩ : Addr).add j) = some u) := HH.out.cells (g := gb) rfl
    have HML : Hid (cap ≤ maxLen) := hml
    have q9 : (cap : Int) ≤ 9223372036854775807 := by unfold maxLen at hml; omega
    by_cases hq : (cap : Int) / 4 < (N : Int)
    · clear h ho hcs htk hg hbase hml
      go_enter Try.func55, Try.ntmps55
      go_wp2_with fail
      go_ret
      refine ⟨_, rfl, ?_, .inl rfl, Below.refl _ _⟩
      have := HH.out
      rw [HN.out] at this
      exact this
    · clear h ho hcs htk hg hbase hml
      go_enter Try.func55, Try.ntmps55
      go_wp2_with (first | (at_builtin; refine wpList_append_own_at _ rfl _ _ 108 rfl w.heap.size tL i0 _ 3 24 Try.underlying108 hi hz0 hz1 hz2 rfl (by decide) _ 0 [] rfl (World.ownsRow_nil w w.heap.size tL 3) ⟨gb, 0, none⟩ N cap (gc Z) rfl (by rw [gc_len, HN.out]) HNEW.out (gc_one HO.out) (by unfold maxLen; omega) (by omega) (Nat.le_refl _) ?_; intro v' w1 hown' hgrow hnil hloc) | fail)
      go_ret
      refine ⟨_, rfl, ?_, .inr ?_, ?_⟩
      · have := own_base (base' := 0) hown' (fun g _ => Nat.zero_le _)
        rw [Nat.zero_add, List.nil_append] at this
        exact this
      · intro g hg
        exact Lib0.own_ge hown' g hg
      · exact (Below.refl _ _).grown hgrow (Nat.le_refl _) (fun g hg => nomatch (show (none : Option Nat) = some g from hg))
end Go.Proofs.Ytgchdjjafgkcbaa.Kh
