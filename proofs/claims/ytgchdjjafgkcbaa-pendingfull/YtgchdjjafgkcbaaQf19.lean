import Derived.Test.YtgchdjjafgkcbaaQf18
import Derived.Deep.AppendLies
/- Tick, plain; lists of requests in memory. -/
namespace Go.Proofs.Ytgchdjjafgkcbaa.Pl
set_option linter.unusedVariables false
set_option linter.unusedSimpArgs false
open Go.RowKit Go.Maps Lib0 Kb Xp Za Ze Ih Fh Hh Pa Pb Pc Pe Pf Pg
attribute [local go_sem] Oper.semAt_some
abbrev PT := Rq × Value × Value
def pl (ps : List PT) : List Value := ps.flatMap fun p => (pcs p.1 p.2.1 p.2.2).toList
theorem pl_nil : pl [] = [] := rfl
theorem pl_append (a b : List PT) : pl (a ++ b) = pl a ++ pl b := by simp [pl]
theorem pl_one (p : PT) : pl [p] = (pcs p.1 p.2.1 p.2.2).toList := by simp [pl]
theorem infoP12 : ∃ i, Try.prog.info? tP = some i ∧ i.zero = some (.agg zP) ∧ i.size = 12 ∧ i.bytes = 168 := by
  have h : (Try.prog.info? tP).map (fun i => (i.zero, i.size, i.bytes)) = some (some (.agg zP), 12, 168) := by kernel_rfl
  cases e : Try.prog.info? tP with
  | none => rw [e] at h; cases h
  | some i => rw [e] at h; simp at h; exact ⟨i, rfl, h.1, h.2.1, h.2.2⟩
/-- a list of requests, in memory of its own -/
structure Lst (w : World) (base lo : Nat) (v : Value) (qs : List Rq) : Prop where
  row : ∃ ps : List PT, ps.map Prod.fst = qs ∧ w.ownsRow lo tP 12 v ps.length (pl ps) ∧ ∀ p ∈ ps, w.ownsRow base tF 3 p.2.1 p.1.L1.length (fc p.1.L1) ∧ w.ownsRow base tF 3 p.2.2 p.1.L2.length (fc p.1.L2)
theorem lst_nil (w : World) (base lo : Nat) : Lst w base lo (.slice none 0 0) [] := ⟨[], rfl, World.ownsRow_nil _ _ _ _, fun p hp => by cases hp⟩
/-- blocks of cells of a request's type stay too -/
theorem Kx.rowP {w x : World} (h : Kx w x) {base n : Nat} {v : Value} {xs : List Value} (ho : w.ownsRow base tP 12 v n xs) : x.ownsRow base tP 12 v n xs := own_keep ho fun g hg => by
  obtain ⟨c, hc⟩ := own_ty ho hg
  exact h.block g c tP _ hc (by decide) (by decide) (by decide) (by decide)
theorem Kt.rowP {w x : World} (h : Kt w x) {base n : Nat} {v : Value} {xs : List Value} (ho : w.ownsRow base tP 12 v n xs) : x.ownsRow base tP 12 v n xs := own_keep ho fun g hg => by
  obtain ⟨c, hc⟩ := own_ty ho hg
  exact h.block g c tP _ hc (by decide) (by decide) (by decide) (by decide) (by decide)
theorem Lst.keep {w x : World} {base lo : Nat} {v : Value} {qs : List Rq} (h : Lst w base lo v qs) (k : Kt w x) : Lst x base lo v qs := by
  obtain ⟨ps, h1, h2, h3⟩ := h.row
  exact ⟨ps, h1, Kt.rowP k h2, fun p hp => ⟨k.row (h3 p hp).1, k.row (h3 p hp).2⟩⟩
/-- what stays where a row of requests grows: all blocks of other types, and maps -/
def Kg (v : Value) (x y : World) : Prop := ∀ (g : Nat) (o : Obj), x.heap[g]? = some o → (∀ c fr, o ≠ .cells c tP fr) → y.heap[g]? = some o
theorem kg_of {x y : World} {lo n : Nat} {v : Value} {xs : List Value} (ho : x.ownsRow lo tP 12 v n xs) (hg : x.grownBy y v.ownBlock) : Kg v x y := fun g o hgo hne => by
  refine (hg.block g (Array.getElem?_eq_some_iff.1 hgo).1 (fun e => ?_)).trans hgo
  obtain ⟨c, hc⟩ := own_ty ho e.symm
  rw [hgo] at hc
  injection hc with hc
  exact hne _ _ hc
section
variable {w x y : World} {base b wb rb kb hb : Nat} {Bw Br : Nat → Prop} {ck ch : Nat} {Dk Dh : DataW Value} {C : Cf} {old : Int} {XW XR : LT} {nw nr lw lr : Int} {v : Value}
theorem Kg.cell (h : Kg v x y) {g : Nat} {c : Array Value} {t : TypeId} {fr : Nat × Nat} (hg : x.heap[g]? = some (.cells c t fr)) (ht : t ≠ tP) : y.heap[g]? = x.heap[g]? := (h g _ hg (fun c2 fr2 e => ht (by injection e))).trans hg.symm
theorem Kg.row (h : Kg v x y) {lo n size : Nat} {t : TypeId} (ht : t ≠ tP) {u : Value} {xs : List Value} (ho : x.ownsRow lo t size u n xs) : y.ownsRow lo t size u n xs := own_keep ho fun g hg => by
  obtain ⟨c, hc⟩ := own_ty ho hg
  exact h.cell hc ht
theorem Kg.hd (h : Kg v x y) {g : Nat} {r : Rq} {t : Int} {l : Bool} (hd : Hd x base g r t l) : Hd y base g r t l := by
  obtain ⟨h0, v1, v2, h1, h2, h3⟩ := hd
  exact ⟨h0, v1, v2, (h.cell h1 (by decide)).trans h1, h.row (by decide) h2, h.row (by decide) h3⟩
theorem Kg.map (h : Kg v x y) {K : TypeId} {R : Value → Option (DataW Value × List MemPlace)} {mb n : Nat} {D : DataW Value} (ho : x.ownsMap Try.prog K R mb n D) : y.ownsMap Try.prog K R mb n D := by
  obtain ⟨es, cl, hk, r⟩ := ho
  exact ⟨es, cl, h mb _ hk (fun c fr e => by cases e), r⟩
theorem Kg.wheel (h : Kg v x y) {q : Nat} {B : Nat → Prop} {n : Nat} {L : LT} {now last : Int} (hw : Wl x q B n L now last) : Wl y q B n L now last := hw.keep fun g hg => by
  have hlt := hw.lt g hg
  have e : x.heap[g]? = some x.heap[g] := by simp [hlt]
  rw [e]
  refine h g _ e (fun c fr e2 => ?_)
  exact wl_kind hw (e.trans (congrArg some e2)) ⟨by decide, by decide, by decide⟩ hg
theorem Kg.tm (h : Kg v x y) (hs : x.heap.size ≤ y.heap.size) (ht : Tm x base b wb rb kb hb Bw Br ck ch Dk Dh C old XW XR nw nr lw lr) : Tm y base b wb rb kb hb Bw Br ck ch Dk Dh C old XW XR nw nr lw lr :=
  ⟨(h.cell ht.blk (by decide)).trans ht.blk, h.wheel ht.ww, h.wheel ht.wr, h.map ht.keys, h.map ht.held, ht.apart, ht.nk, ht.nh, ht.kh, ht.low, ht.loww, ht.lowr, Nat.le_trans ht.base_ hs⟩
/-- seen from a world in which the row was not yet -/
theorem Kt.grown {lo n : Nat} {xs : List Value} (h : Kt w x) (ho : x.ownsRow lo tP 12 v n xs) (hl : w.heap.size ≤ lo) (hg : x.grownBy y v.ownBlock) : Kt w y :=
  ⟨hg.os.trans h.os, hg.tape.trans h.tape, hg.output.trans h.output, Nat.le_trans h.size hg.size, fun g c t fr hgg a a2 b d e => (hg.block g (Nat.lt_of_lt_of_le (Array.getElem?_eq_some_iff.1 hgg).1 h.size) (fun e2 => by
    have := Lib0.own_ge ho g e2.symm
    have := (Array.getElem?_eq_some_iff.1 hgg).1
    omega)).trans (h.block g c t fr hgg a a2 b d e)⟩
theorem below_grown {lo n : Nat} {xs : List Value} (h : Below base w x) (ho : x.ownsRow lo tP 12 v n xs) (hl : base ≤ lo) (hb : base ≤ x.heap.size) (hg : x.grownBy y v.ownBlock) : Below base w y :=
  h.trans ⟨hg.os, hg.tape, hg.output, hg.size, fun g hgg => hg.block g (Nat.lt_of_lt_of_le hgg hb) (fun e2 => by
    have := Lib0.own_ge ho g e2.symm
    omega)⟩
/-- another list, whose block is another -/
theorem Lst.other {lo lo2 n : Nat} {xs : List Value} {u : Value} {qs : List Rq} (h : Lst x base lo u qs) (ho : x.ownsRow lo2 tP 12 v n xs) (hg : x.grownBy y v.ownBlock) (hne : ∀ k, u.ownBlock = some k → v.ownBlock ≠ some k) : Lst y base lo u qs := by
  obtain ⟨ps, h1, h2, h3⟩ := h.row
  have kg := kg_of ho hg
  refine ⟨ps, h1, own_keep h2 fun g hgg => ?_, fun p hp => ⟨kg.row (by decide) (h3 p hp).1, kg.row (by decide) (h3 p hp).2⟩⟩
  obtain ⟨c, hc⟩ := own_ty h2 hgg
  exact hg.block g (Array.getElem?_eq_some_iff.1 hc).1 (fun e => hne g hgg e.symm)
end
/-- what becomes of those that are remembered while late ones come -/
structure Pu where
  LR : List XQ
  lr : Int
  old : Int
  gone : List Rq
def push (C : Cf) (now : Int) (P : Pu) (x : XQ) : Pu :=
  match P.LR ++ [(P.lr + 1, now + C.late, x.2.2.1, x.2.2.2)] with
  | [] => P
  | y :: L => if C.most < ((y :: L).length : Int) then ⟨L, P.lr + 1, y.1, P.gone ++ [y.2.2.2]⟩ else ⟨y :: L, P.lr + 1, P.old, P.gone⟩
def dueX (now : Int) (x : XQ) : Bool := x.2.1 == now + 1
def tickP (C : Cf) (S : St) : Pu := (S.LW.filter (dueX S.now)).foldl (push C (S.now + 1)) ⟨S.LR.filter (fun x => !dueX S.now x), S.lr, S.old, (S.LR.filter (dueX S.now)).map (·.2.2.2)⟩
def tickS (C : Cf) (S : St) : St := ⟨S.LW.filter (fun x => !dueX S.now x), (tickP C S).LR, S.now + 1, S.lw, (tickP C S).lr, (tickP C S).old⟩
def lateL (S : St) : List Rq := (S.LW.filter (dueX S.now)).map (·.2.2.2)
end Go.Proofs.Ytgchdjjafgkcbaa.Pl
/- Tick, plain: what holds while late ones are pushed. -/
namespace Go.Proofs.Ytgchdjjafgkcbaa.Pm
set_option linter.unusedVariables false
set_option linter.unusedSimpArgs false
open Go.RowKit Go.Maps Lib0 Kb Xp Za Ze Ih Fh Hh Pa Pb Pc Pe Pf Pg Pl
attribute [local irreducible] Pb.nl Pb.kl
def xr (P : Pu) (C : Cf) (now : Int) (x : XQ) : XQ := (P.lr + 1, now + C.late, x.2.2.1, x.2.2.2)
structure Ip (C : Cf) (now : Int) (Q : List XQ) (P : Pu) : Prop where
  okr : Ok 256 (P.LR.map tx) now P.lr
  ro : ∀ x ∈ Q ++ P.LR, Ro x.2.2.2
  nd : (Q ++ P.LR).Pairwise fun x y => nl x.2.2.2 ≠ nl y.2.2.2
  kd : Q.Pairwise fun x y => kl x.2.2.2 ≠ kl y.2.2.2
  lenr : (P.LR.length : Int) ≤ C.most
  old0 : 0 ≤ P.old
  old1 : ∀ x ∈ P.LR, P.old < x.1
  old2 : P.old ≤ P.lr
theorem push_keep {C : Cf} {now : Int} {P : Pu} {x : XQ} (h : ¬ C.most < (P.LR.length : Int) + 1) : push C now P x = ⟨P.LR ++ [xr P C now x], P.lr + 1, P.old, P.gone⟩ := by
  unfold push xr
  split
  · next e => simp at e
  · next y L e =>
    have hl : ((y :: L).length : Int) = (P.LR.length : Int) + 1 := by rw [← e]; simp
    rw [if_neg (by rw [hl]; exact h), e]
theorem push_drop {C : Cf} {now : Int} {P : Pu} {x y : XQ} {L : List XQ} (h : C.most < (P.LR.length : Int) + 1) (e : P.LR ++ [xr P C now x] = y :: L) : push C now P x = ⟨L, P.lr + 1, y.1, P.gone ++ [y.2.2.2]⟩ := by
  have hl : ((y :: L).length : Int) = (P.LR.length : Int) + 1 := by rw [← e]; simp
  unfold push
  rw [show P.LR ++ [(P.lr + 1, now + C.late, x.2.2.1, x.2.2.2)] = y :: L from e]
  simp only
  rw [if_pos (by rw [hl]; exact h)]
theorem nd_move {Q M : List XQ} {x x' : XQ} (hx : x'.2.2.2 = x.2.2.2) (h : (x :: Q ++ M).Pairwise fun x y => nl x.2.2.2 ≠ nl y.2.2.2) : (Q ++ (M ++ [x'])).Pairwise fun x y => nl x.2.2.2 ≠ nl y.2.2.2 := by
  have hp : (Q ++ (M ++ [x'])).Perm (x' :: (Q ++ M)) := by
    rw [← List.append_assoc]
    exact List.perm_append_singleton x' (Q ++ M)
  rw [List.cons_append, List.pairwise_cons] at h
  refine (List.Perm.pairwise_iff (R := fun x y : XQ => nl x.2.2.2 ≠ nl y.2.2.2) (fun {a b} h => Ne.symm h) hp).2 (List.pairwise_cons.2 ⟨fun z hz => ?_, h.2⟩)
  rw [hx]
  exact h.1 z hz
section
variable {C : Cf} {now : Int} {Q : List XQ} {P : Pu} {x : XQ}
theorem Ip.added (h : Ip C now (x :: Q) P) (co : Co C) (hl : P.lr + 1 ≤ 1000000) : Ok 256 ((P.LR ++ [xr P C now x]).map tx) now (P.lr + 1) := by
  rw [List.map_append]
  exact Hh.Ok.add h.okr rfl co.l0 co.l1 (by omega)
theorem Ip.ro2 (h : Ip C now (x :: Q) P) : ∀ z ∈ Q ++ (P.LR ++ [xr P C now x]), Ro z.2.2.2 := by
  intro z hz
  rcases List.mem_append.1 hz with hz | hz
  · exact h.ro z (by simp [hz])
  · rcases List.mem_append.1 hz with hz | hz
    · exact h.ro z (by simp [hz])
    · rw [List.mem_singleton.1 hz]; exact h.ro x (by simp)
theorem Ip.keep (h : Ip C now (x :: Q) P) (co : Co C) (hl : P.lr + 1 ≤ 1000000) (hm : ¬ C.most < (P.LR.length : Int) + 1) : Ip C now Q ⟨P.LR ++ [xr P C now x], P.lr + 1, P.old, P.gone⟩ := by
  refine ⟨h.added co hl, h.ro2, nd_move (x := x) rfl h.nd, (List.pairwise_cons.1 h.kd).2, ?_, h.old0, fun z hz => ?_, ?_⟩
  · show ((P.LR ++ [_]).length : Int) ≤ _
    rw [List.length_append, List.length_singleton]
    omega
  · rcases List.mem_append.1 hz with hz | hz
    · exact h.old1 z hz
    · rw [List.mem_singleton.1 hz]; have := h.old2; show P.old < P.lr + 1; omega
  · have := h.old2; show P.old ≤ P.lr + 1; omega
theorem Ip.drop (h : Ip C now (x :: Q) P) (co : Co C) (hl : P.lr + 1 ≤ 1000000) {y : XQ} {L : List XQ} (e : P.LR ++ [xr P C now x] = y :: L) : Ip C now Q ⟨L, P.lr + 1, y.1, P.gone ++ [y.2.2.2]⟩ := by
  have hok := h.added co hl
  have hro := h.ro2
  have hnd := nd_move (x := x) (x' := xr P C now x) rfl h.nd
  rw [e] at hok hro hnd
  have hinc := hok.inc
  have hnum := hok.num
  rw [List.map_cons] at hok hinc hnum
  have hi := List.pairwise_cons.1 hinc
  refine ⟨?_, fun z hz => hro z ?_, ?_, (List.pairwise_cons.1 h.kd).2, ?_, ?_, fun z hz => ?_, ?_⟩
  · have := Ch.Ok.cancel hok (fun z => !(z.1 == (tx y).1))
    rwa [Pk.drop_head hinc] at this
  · rcases List.mem_append.1 hz with hz | hz
    · simp [hz]
    · simp only [List.mem_append, List.mem_cons]; exact .inr (.inr hz)
  · exact hnd.sublist (List.Sublist.append_left (List.sublist_cons_self _ _) _)
  · have := congrArg List.length e
    simp at this
    have := h.lenr
    show (L.length : Int) ≤ _
    omega
  · have := hnum (tx y) (by simp)
    have e2 : (tx y).1 = y.1 := rfl
    show 0 ≤ y.1
    omega
  · have := hi.1 (tx z) (List.mem_map.2 ⟨z, hz, rfl⟩)
    exact this
  · have := hnum (tx y) (by simp)
    have e2 : (tx y).1 = y.1 := rfl
    show y.1 ≤ P.lr + 1
    omega
end
end Go.Proofs.Ytgchdjjafgkcbaa.Pm
