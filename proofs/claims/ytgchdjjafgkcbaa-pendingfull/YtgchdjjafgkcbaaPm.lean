/- Tick, plain: what holds while late ones are pushed. -/
import Derived.Test.YtgchdjjafgkcbaaPl
namespace Go.Proofs.Ytgchdjjafgkcbaa.Pm
set_option linter.unusedVariables false
set_option linter.unusedSimpArgs false
open Go.RowKit Go.Maps Lib0 Kb Xp Za Ze Ih Fh Hh Pa Pb Pc Pe Pf Pg Pl
attribute [local irreducible] Pb.nl Pb.kl
def xr (P : Pu) (C : Cf) (now : Int) (x : XQ) : XQ := (P.lr + 1, now + C.late, x.2.2.1, x.2.2.2)
structure Ip (C : Cf) (now : Int) (Q : List XQ) (P : Pu) : Prop where
  okr : Ok 256 (P.LR.map tx) now P.lr
  ro : ∀ x ∈ Q ++ P.LR, Ro x.2.2.2
  nd : (Q ++ P.LR).Pairwise fun x y => nl x.2.2.2 ≠ nl y.2.2.2
  kd : Q.Pairwise fun x y => kl x.2.2.2 ≠ kl y.2.2.2
  lenr : (P.LR.length : Int) ≤ C.most
  old0 : 0 ≤ P.old
  old1 : ∀ x ∈ P.LR, P.old < x.1
  old2 : P.old ≤ P.lr
theorem push_keep {C : Cf} {now : Int} {P : Pu} {x : XQ} (h : ¬ C.most < (P.LR.length : Int) + 1) : push C now P x = ⟨P.LR ++ [xr P C now x], P.lr + 1, P.old, P.gone⟩ := by
  unfold push xr
  split
  · next e => simp at e
  · next y L e =>
    have hl : ((y :: L).length : Int) = (P.LR.length : Int) + 1 := by rw [← e]; simp
    rw [if_neg (by rw [hl]; exact h), e]
theorem push_drop {C : Cf} {now : Int} {P : Pu} {x y : XQ} {L : List XQ} (h : C.most < (P.LR.length : Int) + 1) (e : P.LR ++ [xr P C now x] = y :: L) : push C now P x = ⟨L, P.lr + 1, y.1, P.gone ++ [y.2.2.2]⟩ := by
  have hl : ((y :: L).length : Int) = (P.LR.length : Int) + 1 := by rw [← e]; simp
  unfold push
  rw [show P.LR ++ [(P.lr + 1, now + C.late, x.2.2.1, x.2.2.2)] = y :: L from e]
  simp only
  rw [if_pos (by rw [hl]; exact h)]
theorem nd_move {Q M : List XQ} {x x' : XQ} (hx : x'.2.2.2 = x.2.2.2) (h : (x :: Q ++ M).Pairwise fun x y => nl x.2.2.2 ≠ nl y.2.2.2) : (Q ++ (M ++ [x'])).Pairwise fun x y => nl x.2.2.2 ≠ nl y.2.2.2 := by
  have hp : (Q ++ (M ++ [x'])).Perm (x' :: (Q ++ M)) := by
    rw [← List.append_assoc]
    exact List.perm_append_singleton x' (Q ++ M)
  rw [List.cons_append, List.pairwise_cons] at h
  refine (List.Perm.pairwise_iff (R := fun x y : XQ => nl x.2.2.2 ≠ nl y.2.2.2) (fun {a b} h => Ne.symm h) hp).2 (List.pairwise_cons.2 ⟨fun z hz => ?_, h.2⟩)
  rw [hx]
  exact h.1 z hz
section
variable {C : Cf} {now : Int} {Q : List XQ} {P : Pu} {x : XQ}
theorem Ip.added (h : Ip C now (x :: Q) P) (co : Co C) (hl : P.lr + 1 ≤ 1000000) : Ok 256 ((P.LR ++ [xr P C now x]).map tx) now (P.lr + 1) := by
  rw [List.map_append]
  exact Hh.Ok.add h.okr rfl co.l0 co.l1 (by omega)
theorem Ip.ro2 (h : Ip C now (x :: Q) P) : ∀ z ∈ Q ++ (P.LR ++ [xr P C now x]), Ro z.2.2.2 := by
  intro z hz
  rcases List.mem_append.1 hz with hz | hz
  · exact h.ro z (by simp [hz])
  · rcases List.mem_append.1 hz with hz | hz
    · exact h.ro z (by simp [hz])
    · rw [List.mem_singleton.1 hz]; exact h.ro x (by simp)
theorem Ip.keep (h : Ip C now (x :: Q) P) (co : Co C) (hl : P.lr + 1 ≤ 1000000) (hm : ¬ C.most < (P.LR.length : Int) + 1) : Ip C now Q ⟨P.LR ++ [xr P C now x], P.lr + 1, P.old, P.gone⟩ := by
  refine ⟨h.added co hl, h.ro2, nd_move (x := x) rfl h.nd, (List.pairwise_cons.1 h.kd).2, ?_, h.old0, fun z hz => ?_, ?_⟩
  · show ((P.LR ++ [_]).length : Int) ≤ _
    rw [List.length_append, List.length_singleton]
    omega
  · rcases List.mem_append.1 hz with hz | hz
    · exact h.old1 z hz
    · rw [List.mem_singleton.1 hz]; have := h.old2; show P.old < P.lr + 1; omega
  · have := h.old2; show P.old ≤ P.lr + 1; omega
theorem Ip.drop (h : Ip C now (x :: Q) P) (co : Co C) (hl : P.lr + 1 ≤ 1000000) {y : XQ} {L : List XQ} (e : P.LR ++ [xr P C now x] = y :: L) : Ip C now Q ⟨L, P.lr + 1, y.1, P.gone ++ [y.2.2.2]⟩ := by
  have hok := h.added co hl
  have hro := h.ro2
  have hnd := nd_move (x := x) (x' := xr P C now x) rfl h.nd
  rw [e] at hok hro hnd
  have hinc := hok.inc
  have hnum := hok.num
  rw [List.map_cons] at hok hinc hnum
  have hi := List.pairwise_cons.1 hinc
  refine ⟨?_, fun z hz => hro z ?_, ?_, (List.pairwise_cons.1 h.kd).2, ?_, ?_, fun z hz => ?_, ?_⟩
  · have := Ch.Ok.cancel hok (fun z => !(z.1 == (tx y).1))
    rwa [Pk.drop_head hinc] at this
  · rcases List.mem_append.1 hz with hz | hz
    · simp [hz]
    · simp only [List.mem_append, List.mem_cons]; exact .inr (.inr hz)
  · exact hnd.sublist (List.Sublist.append_left (List.sublist_cons_self _ _) _)
  · have := congrArg List.length e
    simp at this
    have := h.lenr
    show (L.length : Int) ≤ _
    omega
  · have := hnum (tx y) (by simp)
    have e2 : (tx y).1 = y.1 := rfl
    show 0 ≤ y.1
    omega
  · have := hi.1 (tx z) (List.mem_map.2 ⟨z, hz, rfl⟩)
    exact this
  · have := hnum (tx y) (by simp)
    have e2 : (tx y).1 = y.1 := rfl
    show y.1 ≤ P.lr + 1
    omega
end
end Go.Proofs.Ytgchdjjafgkcbaa.Pm
