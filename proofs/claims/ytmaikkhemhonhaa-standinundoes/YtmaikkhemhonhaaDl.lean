/- Pop, Push; Fix, heap.Push, Remove. -/
import Derived.Test.YtmaikkhemhonhaaDk
namespace Go.Proofs.Ytmaikkhemhonhaa.Dl
set_option linter.unusedVariables false
set_option linter.unusedSimpArgs false
open Go.RowKit Go.Maps Lib0 Kb Xp Da Db Dc Dd De Dh Di Dx Dj Dk
attribute [local go_sem] Oper.semAt_some
/-- what became of a heap that grew or fell -/
def PR (w : World) (base b : Nat) (bc : Array Value) (A' : List Rc) (w' : World) : Prop := ∃ av', HpM w' base b (bc.setIfInBounds 4 av') av' A' ∧ KT sH w w' ∧ Below base w w'
theorem PR.behind {w x y : World} {base b : Nat} {bc : Array Value} {A : List Rc} (h : PR w base b bc A x) (k : Below x.heap.size x y) : PR w base b bc A y := by
  obtain ⟨av, h1, h2, h3⟩ := h
  exact ⟨av, h1.below k, h2.trans (KT.of k), h3.trans (k.mono h1.bas)⟩
set_option maxRecDepth 100000 in
theorem pop_any {w : World} {base b : Nat} {bc : Array Value} {av : Value} {A : List Rc} {a : Rc} (h : HpM w base b bc av (A ++ [a])) : Calls Try.prog 83 #[.pointer (some ⟨b, 4, none⟩)] w fun e w' => e = .returned (.iface tP (ptr a.gr)) ∧ PR w base b bc A w' ∧ w'.heap[a.gr]? = w.heap[a.gr]? := by
  obtain ⟨g, cap, rfl, hlg, c, hg⟩ := h.form (by simp)
  have hlen : (A ++ [a]).length = A.length + 1 := by simp
  have hal := (h.at_ A.length (by simp)).1
  rw [List.getElem_append_right (Nat.le_refl _)] at hal
  simp only [Nat.sub_self, List.getElem_singleton] at hal
  have hfz := (h.at_ A.length (by simp)).2.2.2.1
  obtain ⟨c4, f4⟩ := h.cell4
  have hcap : A.length + 1 ≤ cap := by
    obtain ⟨o, c2, e, h1, -⟩ := own_form h.row
    injection e with e1 e2 e3
    subst e3
    rw [hlen] at h1
    exact h1
  have nbg : b ≠ g := fun e => ty_ne h.blk hg (by decide) e
  have hb1 : (w.setCell ⟨g, A.length, none⟩ (.pointer none)).heap[b]? = some (.cells bc tB (0, 0)) := by rw [setCell_ne (p := ⟨g, A.length, none⟩) (Ne.symm nbg)]; exact h.blk
  have d4 : (w.setCell ⟨g, A.length, none⟩ (.pointer none)).cell? ⟨b, 4, none⟩ = some (.slice (some ⟨g, 0, none⟩) (A.length + 1) cap) := by
    rw [hlen] at c4
    simp only [World.cell?, hb1, Option.bind_some]
    have := h.at4
    rw [hlen] at this
    simpa using this
  have e4 : (w.setCell ⟨g, A.length, none⟩ (.pointer none)).frozen? ⟨b, 4, none⟩ = false := by simp [World.frozen?, hb1]
  have HOLD : Hid (((w.setCell ⟨g, A.length, none⟩ (.pointer none)).setCell ⟨b, 4, none⟩ (.slice (some ⟨g, 0, none⟩) A.length cap)).heap[a.gr]? = w.heap[a.gr]?) := by
    have hr := h.recs A.length (by simp)
    rw [List.getElem_append_right (Nat.le_refl _)] at hr
    simp only [Nat.sub_self, List.getElem_singleton] at hr
    show ((w.setCell ⟨g, A.length, none⟩ (.pointer none)).setCell ⟨b, 4, none⟩ (.slice (some ⟨g, 0, none⟩) A.length cap)).heap[a.gr]? = _
    rw [setCell_ne (p := ⟨b, 4, none⟩) (fun e => ty_ne h.blk hr (by decide) e), setCell_ne (p := ⟨g, A.length, none⟩) (fun e => ty_ne hg hr (by decide) e)]
  have HEND : Hid (PR w base b bc A ((w.setCell ⟨g, A.length, none⟩ (.pointer none)).setCell ⟨b, 4, none⟩ (.slice (some ⟨g, 0, none⟩) A.length cap))) := by
    have hoth : ∀ k, k ≠ g → k ≠ b → ((w.setCell ⟨g, A.length, none⟩ (.pointer none)).setCell ⟨b, 4, none⟩ (.slice (some ⟨g, 0, none⟩) A.length cap)).heap[k]? = w.heap[k]? := fun k h1 h2 => by
      rw [setCell_ne (p := ⟨b, 4, none⟩) (fun e => h2 e.symm), setCell_ne (p := ⟨g, A.length, none⟩) (fun e => h1 e.symm)]
    refine ⟨.slice (some ⟨g, 0, none⟩) A.length cap, ⟨?_, ?_, ?_, fun i hi => ?_, ?_, h.low, fun x hx => h.lowr x (by simp [hx]), ?_, ?_⟩, ?_, ?_⟩
    · exact setCell_heap hb1 _ _
    · have := (Array.getElem?_eq_some_iff.1 h.at4).1
      simp [Array.getElem?_setIfInBounds, this]
    · have r2 := (h.row.stored A.length (.pointer none)).1
      rcases r2.2 with ⟨h0, _⟩ | ⟨g', cap', cur, h0, hb, hgg, hnc, hcm, hcs, htake⟩
      · cases h0
      · simp only [Value.slice.injEq, Option.some.injEq, Addr.mk.injEq, and_true, true_and] at h0
        obtain ⟨rfl, rfl⟩ := h0
        refine ⟨by simp, .inr ⟨g, cap, cur, rfl, hb, ?_, by omega, hcm, hcs, ?_⟩⟩
        · rw [setCell_ne (p := ⟨b, 4, none⟩) nbg]; exact hgg
        · have h3 := congrArg (List.take A.length) htake
          rw [List.take_take, hlen] at h3
          rw [Nat.mul_one] at h3 ⊢
          rw [show min A.length (A.length + 1) = A.length by omega] at h3
          rw [h3]
          simp [List.take_set, List.map_append, List.set_append]
    · have hi2 : i < (A ++ [a]).length := by simp; omega
      have := h.recs i hi2
      rw [List.getElem_append_left hi] at this
      rw [hoth _ (fun e => ty_ne hg this (by decide) e.symm) (fun e => ty_ne h.blk this (by decide) e.symm)]
      exact this
    · exact (List.pairwise_append.1 h.apart).1
    · simp only [setCell_size]; exact h.bas
    · have := h.len; rw [hlen] at this; omega
    · exact (KT.set hg (by decide) _).trans (KT.set hb1 (by decide) _)
    · exact ((Below.refl base w).setCell hlg _).setCell h.low _
  rw [hlen] at c4
  obtain ⟨N, hN⟩ : ∃ N, A.length = N := ⟨_, rfl⟩
  have hNb : A.length ≤ 1000000 := by have := h.len; rw [hlen] at this; omega
  rw [hN] at hal hfz c4 d4 e4 hcap HEND hNb HOLD
  have q0 : ((N + 1 : Nat) : Int) - 1 = (N : Int) := by omega
  have q1 : (N : Int) < ((N + 1 : Nat) : Int) := by omega
  have q2 : (0 : Int) ≤ (N : Int) := by omega
  have q3 : ((N + 1 : Nat) : Int) ≤ (cap : Int) := by omega
  have q4 : (N : Int) ≤ (cap : Int) := by omega
  have q5 : (N : Int) ≤ 1000000 := by omega
  unfold ptr at *
  clear h hg hlen hb1 nbg hlg hN hNb hcap
  go_enter Try.func83, Try.ntmps83
  go_wp2_with fail
  go_ret
  exact ⟨rfl, HEND.out, HOLD.out⟩
end Go.Proofs.Ytmaikkhemhonhaa.Dl
