/- A wheel of *turnstile/pending.held: Cancel. -/
import Derived.Test.YtgchdjjafgkcbaaTh
namespace Go.Proofs.Ytgchdjjafgkcbaa.Ch
set_option linter.unusedVariables false
set_option linter.unusedSimpArgs false
open Go.RowKit Go.Maps Lib0 Kb Xp Ih Dh Eh Fh Gh Hh Kh Jh Mh Th
attribute [local go_sem] Oper.semAt_some
theorem cancel_pred (cb : Nat) (t : Int) : Pred 47 cb t fun x => x.1 == t := by
  intro W x h1 hb
  have c0 : W.cell? ⟨cb, 0, none⟩ = some (.int .i64 t) := by simp [World.cell?, hb]
  have hlt : cb < W.heap.size := (Array.getElem?_eq_some_iff.1 hb).1
  obtain ⟨a, b, v⟩ := x
  have c1 : (W.alloc (.cells #[.int .i64 a, .int .i64 b, v] tL)).cell? ⟨cb, 0, none⟩ = some (.int .i64 t) := keepC (below_one _ _) c0 hlt
  clear hb hlt
  unfold agv
  go_enter Try.func47, Try.ntmps47
  go_wp2_with fail
  go_ret
  exact ⟨rfl, below_one _ _⟩
theorem filter_one {L : LT} (hi : Inc L) {x : XT} (hx : x ∈ L) : L.filter (fun y => y.1 == x.1) = [x] := by
  induction L with
  | nil => cases hx
  | cons z L ih =>
    have hi2 := hi
    rw [Inc, List.pairwise_cons] at hi
    rcases List.mem_cons.1 hx with rfl | hx2
    · have : L.filter (fun y => y.1 == x.1) = [] := by
        rw [List.filter_eq_nil_iff]
        intro y hy
        have := hi.1 y hy
        simp
        omega
      rw [List.filter_cons, if_pos (by simp), this]
    · have := hi.1 x hx2
      rw [List.filter_cons, if_neg (by simp; omega)]
      exact ih hi.2 hx2
theorem Ok.cancel {n : Nat} {L : LT} {now last : Int} (h : Ok n L now last) (p : XT → Bool) : Ok n (L.filter p) now last :=
  ⟨h.pos, h.top, h.one.filter _, h.inc.filter _, fun x hx => h.num x (List.mem_filter.1 hx).1, fun x hx => h.tik x (List.mem_filter.1 hx).1, h.now0, h.now1, h.last0, h.last1⟩
theorem look_at {w : World} {mb c : Nat} {D : DataW Unit} {L : LT} (hm : w.ownsMap Try.prog tI (plainElem Try.prog tI) mb c D) (hp : Mp D L) {t : Int} (ht : (Lit.int .i64 t).wf = true) : ∃ cc : Int, (∀ m, (Instr.lookup 96 (.map (some mb)) (.int .i64 t) true).run Try.prog (w.drewN m) = .ok (.tuple #[.int .i64 cc, .bool (lkG L t).isSome]) (w.drewN m)) ∧ ∀ x, lkG L t = some x → cc = x.2.1 := by
  have hkey := keyOf_int_mk Try.underlying3 ht
  have hd : ∀ m, (w.drewN m).ownsMap Try.prog tI (plainElem Try.prog tI) mb c D := fun m => by
    obtain ⟨es, cl, hk, r⟩ := hm
    exact ⟨es, cl, kept (Kb.below_drewN (Below.refl _ w) m) hk, r⟩
  have key : ∀ m, ∃ cc : Int, (Instr.lookup 96 (.map (some mb)) (.int .i64 t) true).run Try.prog (w.drewN m) = .ok (.tuple #[.int .i64 cc, .bool (lkG L t).isSome]) (w.drewN m) ∧ (DataW.lit (.int .i64 cc) : DataW Unit) = D.atKey (.int .i64 t) (.lit (.int .i64 0)) := fun m => by
    obtain ⟨v, ps, hrun, hv⟩ := (hd m).look_ok law Try.underlying96 (zeroI _) (plainElem_int Try.underlying3 (by decide)) hkey
    obtain ⟨cc, rfl, hc, hw⟩ := plainElem_int_inv Try.underlying3 hv
    refine ⟨cc, ?_, (congrArg Prod.fst hc).symm⟩
    rw [hrun, hp.has]
  obtain ⟨cc, -, hcc⟩ := key 0
  refine ⟨cc, fun m => ?_, fun x hx => ?_⟩
  · obtain ⟨c2, h1, h2⟩ := key m
    have : c2 = cc := by
      rw [← hcc] at h2
      simpa using h2
    rw [h1, this]
  · rw [hp.at_ t x hx] at hcc
    simpa using hcc
set_option maxRecDepth 100000 in
set_option maxHeartbeats 1600000 in
theorem cancel_no (w : World) (b : Nat) (B : Nat → Prop) (n : Nat) (L : LT) (now last t : Int) (h : Wl w b B n L now last) (ht : (Lit.int .i64 t).wf = true) (hk : lkG L t = none) :
    Calls Try.prog 38 #[.pointer (some ⟨b, 0, none⟩), .int .i64 t] w fun e w' => e = .returned (.tuple #[Value.pointer none, .int .i64 170]) ∧ Below w.heap.size w w' := by
  obtain ⟨sb, mb, S, c, D, hm, hB⟩ := h
  obtain ⟨y, hy⟩ : ∃ y, w.alloc (.cells #[.int .i64 t] 3) = y := ⟨_, rfl⟩
  have HY : Hid (Below w.heap.size w y) := hy ▸ below_one _ _
  have hmy := hm.keep fun g hg => HY.out.block g (hm.lt g hg)
  obtain ⟨cc, hlk, -⟩ := look_at hmy.map hmy.mp ht
  rw [hk] at hlk
  simp only [Option.isSome_none] at hlk
  have c1 : y.cell? ⟨b, 1, none⟩ = some (.map (some mb)) := by simp [World.cell?, hmy.blk]
  have c2 : y.cell? ⟨w.heap.size, 0, none⟩ = some (.int .i64 t) := by simp [World.cell?, (show y.heap[w.heap.size]? = some (.cells #[.int .i64 t] tI) from hy ▸ h1_0 _ _)]
  clear hm hB hmy hk
  go_enter Try.func38, Try.ntmps38
  go_wp2_with fail
  go_quiet (fail)
  go_wp2_with fail
  go_ret2
  exact ⟨rfl, Kb.below_drewN HY.out _⟩
set_option maxRecDepth 100000 in
set_option maxHeartbeats 1600000 in
theorem cancel_yes (w : World) (b : Nat) (B : Nat → Prop) (n : Nat) (L : LT) (now last t : Int) (x : XT) (h : Wl w b B n L now last) (ok : Ok n L now last) (hl : last ≤ 5864062014805) (ht : (Lit.int .i64 t).wf = true) (hk : lkG L t = some x) :
    Calls Try.prog 38 #[.pointer (some ⟨b, 0, none⟩), .int .i64 t] w fun e w' => e = .returned (.tuple #[x.2.2, .int .i64 0]) ∧ Trn w b B n (L.filter fun y => !(y.1 == t)) now last w' := by
  obtain ⟨sb, mb, S, c, D, hm, hB⟩ := h
  have HB : Hid (∀ g, B g ↔ Bk b sb mb n S g) := hB
  obtain ⟨y, hy⟩ : ∃ y, w.alloc (.cells #[.int .i64 t] 3) = y := ⟨_, rfl⟩
  have HY : Hid (Below w.heap.size w y) := hy ▸ below_one _ _
  have hmy := hm.keep fun g hg => HY.out.block g (hm.lt g hg)
  have HYX : Hid (y.heap[w.heap.size]? = some (.cells #[.int .i64 t] tI)) := hy ▸ h1_0 _ _
  obtain ⟨cc, hlk, hcc⟩ := look_at hmy.map hmy.mp ht
  obtain ⟨hxm, hxt⟩ := lkG_mem hk
  have hx1 := ok.tik x hxm
  have hx0 := ok.now0
  rw [hk] at hlk
  rw [hcc x hk] at hlk
  simp only [Option.isSome_some] at hlk
  have c1 : y.cell? ⟨b, 1, none⟩ = some (.map (some mb)) := by simp [World.cell?, hmy.blk]
  have c2 : y.cell? ⟨w.heap.size, 0, none⟩ = some (.int .i64 t) := by simp [World.cell?, HYX.out]
  have hone := ok.one x hxm
  have HFO : Hid (L.filter (fun y => y.1 == t) = [x]) := by
    show L.filter (fun y => y.1 == t) = [x]
    rw [← hxt]; exact filter_one ok.inc hxm
  have HTK : Hid (∀ m, Calls Try.prog 42 #[.pointer (some ⟨b, 0, none⟩), .int .i64 x.2.1, .func (.func 47) #[] #[.pointer (some ⟨w.heap.size, 0, none⟩)]] (y.drewN m) fun e w' => ∃ v, e = .returned v ∧ TakePost (y.drewN m) b sb mb n S c L now last (fun y => y.1 == t) v w') := fun m =>
    take_m 47 w.heap.size t (fun y => y.1 == t) (enters_of Try.func47 (by kernel_rfl) rfl) (cancel_pred w.heap.size t) (y.drewN m) b sb mb n S c D L now last x.2.1 (hmy.keep fun g hg => (Kb.below_drewN (Below.refl _ y) m).block g (hmy.lt g hg)) ok.one ok.inc ok.num hl ok.pos ok.top (by omega) (fun z hz hp => by
      have : z.1 = x.1 := by rw [hxt]; simpa using hp
      rw [ok.inc.inj hz hxm this]) (kept (Kb.below_drewN (Below.refl _ y) m) HYX.out)
  obtain ⟨x0, tk, th⟩ := x
  dsimp only at HTK hlk hone
  clear hm hB hmy hk hxm hxt hx1 hx0 hcc ok hl
  go_enter Try.func38, Try.ntmps38
  go_wp2_with fail
  go_quiet (fail)
  go_wp2_with fail
  refine (HTK.out _).mono ?_
  rintro e z ⟨v, rfl, ho, S', D', hw, hf, hg⟩
  rw [HFO.out] at ho
  obtain ⟨gg, cap, rfl, -, -⟩ := ho.form (by simp)
  have e1 : z.cell? ⟨gg, 0, none⟩ = some th := by
    have := ho.cells (g := gg) rfl 0 th rfl
    rwa [add_zero] at this
  have HEND : Hid (Trn w b B n (L.filter fun y => !(y.1 == t)) now last z) := by
    have h1 := HY.out.size
    refine ⟨Bk b sb mb n S', ⟨sb, mb, S', c, D', hw, fun g => Iff.rfl⟩, ?_, ?_⟩
    · exact (FrP.of (Kb.below_drewN HY.out _)).trans hf (fun g h => .inl ((HB.out g).2 h))
    · intro g hgg
      rcases hg g hgg with h | h
      · exact .inl ((HB.out g).2 h)
      · have := (Kb.below_drewN HY.out nq).size
        exact .inr (Nat.le_trans this h)
  clear ho hw hf hg HTK c1 c2
  simp only [List.length_cons, List.length_nil]
  go_wp2_with fail
  go_ret2
  exact ⟨rfl, HEND.out⟩
end Go.Proofs.Ytgchdjjafgkcbaa.Ch
