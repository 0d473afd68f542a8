/- Answer. -/
import Derived.Test.YtgchdjjafgkcbaaPv
namespace Go.Proofs.Ytgchdjjafgkcbaa.Pw
set_option linter.unusedVariables false
set_option linter.unusedSimpArgs false
open Go.RowKit Go.Maps Lib0 Kb Xp Za Ze Ih Fh Hh Pa Pb Pc Pe Pf Pg Pv
attribute [local go_sem] Oper.semAt_some
attribute [local irreducible] Pb.nl Pb.kl
theorem res_row_tmp {P : Program} {fn : Func} {p u : Tmp} {ty : TypeId} (h : fn.results = #[.cell p ty, .tmp u]) (tmps : Array Value) (w : World) (g : Nat) (t : TypeId) (cs : Array Value) (fr : Nat × Nat) (d : TypeDesc)
    (hp : tmps.getD p undef = .pointer (some ⟨g, 0, none⟩)) (hg : w.heap[g]? = some (.cells cs t fr))
    (hu : P.underlying ty = some d) (hd : (match d with | .struct _ | .array _ _ => true | _ => false) = true) (hi : (P.info? ty).map (·.size) = some cs.size) :
    (results fn tmps).run P w = .ok (.tuple #[.agg cs, tmps.getD u undef]) w := by
  rw [results_cell_tmp h, hp]
  simp only [asAddr, Sem.run_pure, Result.andThen_ok, run_loadVar_row w g t ty cs fr d hg hu hd hi]
theorem pw_inj {α : Type} {β : Type} {f : α → β} {L : List α} (h : L.Pairwise fun a b => f a ≠ f b) {a b : α} (ha : a ∈ L) (hb : b ∈ L) (e : f a = f b) : a = b := by
  induction L with
  | nil => cases ha
  | cons z L ih =>
    rw [List.pairwise_cons] at h
    rcases List.mem_cons.1 ha with ea | ha
    · rcases List.mem_cons.1 hb with eb | hb
      · rw [ea, eb]
      · exact absurd (by rw [ea] at e; exact e) (h.1 b hb)
    · rcases List.mem_cons.1 hb with eb | hb
      · exact absurd (by rw [eb] at e; exact e.symm) (h.1 a ha)
      · exact ih h.2 ha hb
def offT (L : List XQ) (t : Int) : List XQ := L.filter fun y => !(y.1 == t)
theorem off_tx (L : List XQ) (t : Int) : (L.map tx).filter (fun y => !(y.1 == t)) = (offT L t).map tx := by
  unfold offT
  rw [List.filter_map]; rfl
theorem mem_off {L : List XQ} {t : Int} {y : XQ} : y ∈ offT L t ↔ y ∈ L ∧ y.1 ≠ t := by
  unfold offT
  rw [List.mem_filter]
  simp
theorem off_sub (L : List XQ) (t : Int) : (offT L t).Sublist L := List.filter_sublist
theorem inc_inj {L : List XQ} {now last : Int} (h : Ok 256 (L.map tx) now last) {x y : XQ} (hx : x ∈ L) (hy : y ∈ L) (e : x.1 = y.1) : x = y := by
  have hi : (L.map tx).Pairwise fun a b => a.1 < b.1 := h.inc
  rw [List.pairwise_map] at hi
  refine pw_inj (f := fun z : XQ => z.1) (hi.imp (fun {a b} (hab : a.1 < b.1) => ?_)) hx hy e
  show a.1 ≠ b.1
  omega
theorem lk_of {L : List XQ} {now last : Int} (h : Ok 256 (L.map tx) now last) {x : XQ} (hx : x ∈ L) : lkG (L.map tx) x.1 = some (tx x) := lkG_of_mem h.inc (x := tx x) (List.mem_map.2 ⟨x, hx, rfl⟩)
theorem wf_timer {L : List XQ} {now last : Int} (h : Ok 256 (L.map tx) now last) {x : XQ} (hx : x ∈ L) : (Lit.int .i64 x.1).wf = true := by
  have h1 := h.num (tx x) (List.mem_map.2 ⟨x, hx, rfl⟩)
  have h2 := h.last1
  have e : (tx x).1 = x.1 := rfl
  exact Hh.wf64 (by omega) (by omega)
section
variable {w : World} {base b : Nat} {C : Cf} {S : St}
theorem nm_at (h : Iv C S) {x y : XQ} (hx : x ∈ S.LW ++ S.LR) (hy : y ∈ S.LW ++ S.LR) (e : nl x.2.2.2 = nl y.2.2.2) : x = y := pw_inj (f := fun z : XQ => nl z.2.2.2) h.nd hx hy e
theorem ky_at (h : Iv C S) {x y : XQ} (hx : x ∈ S.LW) (hy : y ∈ S.LW) (e : kl x.2.2.2 = kl y.2.2.2) : x = y := pw_inj (f := fun z : XQ => kl z.2.2.2) h.kd hx hy e
theorem iv_offW (h : Iv C S) (t : Int) : Iv C { S with LW := offT S.LW t } := by
  refine ⟨?_, h.okr, fun x hx => ?_, h.nd.sublist ((off_sub S.LW t).append_right S.LR), h.kd.sublist (off_sub S.LW t), ?_, h.lenr, h.old0, h.old1, h.old2⟩
  · have := Ch.Ok.cancel h.okw (fun y => !(y.1 == t))
    rwa [off_tx] at this
  · rcases List.mem_append.1 hx with hx | hx
    · exact h.ro x (List.mem_append.2 (.inl (mem_off.1 hx).1))
    · exact h.ro x (List.mem_append.2 (.inr hx))
  · have h1 : (offT S.LW t).length ≤ S.LW.length := List.length_filter_le _ _
    have := h.lenw
    show ((offT S.LW t).length : Int) ≤ _
    omega
theorem iv_offR (h : Iv C S) (t : Int) : Iv C { S with LR := offT S.LR t } := by
  refine ⟨h.okw, ?_, fun x hx => ?_, h.nd.sublist (List.Sublist.append_left (off_sub S.LR t) S.LW), h.kd, h.lenw, ?_, h.old0, fun x hx => h.old1 x (mem_off.1 hx).1, h.old2⟩
  · have := Ch.Ok.cancel h.okr (fun y => !(y.1 == t))
    rwa [off_tx] at this
  · rcases List.mem_append.1 hx with hx | hx
    · exact h.ro x (List.mem_append.2 (.inl hx))
    · exact h.ro x (List.mem_append.2 (.inr (mem_off.1 hx).1))
  · have h1 : (offT S.LR t).length ≤ S.LR.length := List.length_filter_le _ _
    have := h.lenr
    show ((offT S.LR t).length : Int) ≤ _
    omega
theorem nd_apart (h : Iv C S) {x y : XQ} (hx : x ∈ S.LW) (hy : y ∈ S.LR) : nl x.2.2.2 ≠ nl y.2.2.2 := (List.pairwise_append.1 h.nd).2.2 x hx y hy
theorem mt_offW {Dk Dh : DataW Value} (h : Iv C S) {x : XQ} (hx : x ∈ S.LW) (m : Mt Dk Dh (KPs S.LW) (HPs (S.LW ++ S.LR))) : Mt (Dk.del (kl x.2.2.2)) (Dh.del (nl x.2.2.2)) (KPs (offT S.LW x.1)) (HPs (offT S.LW x.1 ++ S.LR)) := by
  refine ((m.delK x.2.2.2).delH x.2.2.2).congr (fun q => ?_) (fun k q => ?_)
  · constructor
    · rintro ⟨⟨z, hz, rfl⟩, hne⟩
      refine ⟨z, mem_off.2 ⟨hz, fun e => hne ?_⟩, rfl⟩
      rw [inc_inj h.okw hz hx e]
    · rintro ⟨z, hz, rfl⟩
      obtain ⟨h1, h2⟩ := mem_off.1 hz
      exact ⟨⟨z, h1, rfl⟩, fun e => h2 (by rw [ky_at h h1 hx e])⟩
  · constructor
    · rintro ⟨⟨z, hz, e1, e2⟩, hne⟩
      refine ⟨z, ?_, e1, e2⟩
      rcases List.mem_append.1 hz with hz | hz
      · refine List.mem_append.2 (.inl (mem_off.2 ⟨hz, fun e => hne ?_⟩))
        rw [← e2, inc_inj h.okw hz hx e]
      · exact List.mem_append.2 (.inr hz)
    · rintro ⟨z, hz, e1, e2⟩
      rcases List.mem_append.1 hz with hz | hz
      · obtain ⟨h1, h2⟩ := mem_off.1 hz
        exact ⟨⟨z, List.mem_append.2 (.inl h1), e1, e2⟩, fun e => h2 (by rw [← e2] at e; rw [nm_at h (List.mem_append.2 (.inl h1)) (List.mem_append.2 (.inl hx)) e])⟩
      · exact ⟨⟨z, List.mem_append.2 (.inr hz), e1, e2⟩, by rw [← e2]; exact (nd_apart h hx hz).symm⟩
theorem mt_offR {Dk Dh : DataW Value} (h : Iv C S) {x : XQ} (hx : x ∈ S.LR) (m : Mt Dk Dh (KPs S.LW) (HPs (S.LW ++ S.LR))) : Mt Dk (Dh.del (nl x.2.2.2)) (KPs S.LW) (HPs (S.LW ++ offT S.LR x.1)) := by
  refine (m.delH x.2.2.2).congr (fun q => Iff.rfl) (fun k q => ?_)
  constructor
  · rintro ⟨⟨z, hz, e1, e2⟩, hne⟩
    refine ⟨z, ?_, e1, e2⟩
    rcases List.mem_append.1 hz with hz | hz
    · exact List.mem_append.2 (.inl hz)
    · refine List.mem_append.2 (.inr (mem_off.2 ⟨hz, fun e => hne ?_⟩))
      rw [← e2, inc_inj h.okr hz hx e]
  · rintro ⟨z, hz, e1, e2⟩
    rcases List.mem_append.1 hz with hz | hz
    · exact ⟨⟨z, List.mem_append.2 (.inl hz), e1, e2⟩, by rw [← e2]; exact nd_apart h hz hx⟩
    · obtain ⟨h1, h2⟩ := mem_off.1 hz
      exact ⟨⟨z, List.mem_append.2 (.inr h1), e1, e2⟩, fun e => h2 (by rw [← e2] at e; rw [nm_at h (List.mem_append.2 (.inr h1)) (List.mem_append.2 (.inr hx)) e])⟩
theorem hd_setP {x : World} {g k : Nat} {r : Rq} {t : Int} {l : Bool} (h : Hd x base g r t l) {c : Array Value} (hk : x.heap[k]? = some (.cells c tP (0, 0))) (c' : Array Value) : Hd (x.setRow k c') base g r t l := by
  obtain ⟨h0, v1, v2, h1, h2, h3⟩ := h
  exact ⟨h0, v1, v2, (setRow_ne (ty_ne hk h1 (by decide)) c').trans h1, Pj.row_setP hk h2 c', Pj.row_setP hk h3 c'⟩
end
end Go.Proofs.Ytgchdjjafgkcbaa.Pw
