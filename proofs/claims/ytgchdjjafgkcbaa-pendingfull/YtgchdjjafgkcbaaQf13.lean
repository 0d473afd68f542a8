import Derived.Test.YtgchdjjafgkcbaaQf12
import Derived.Test.YtgchdjjafgkcbaaQf07
/- A wheel of *turnstile/pending.held: Cancel. -/
namespace Go.Proofs.Ytgchdjjafgkcbaa.Ch
set_option linter.unusedVariables false
set_option linter.unusedSimpArgs false
open Go.RowKit Go.Maps Lib0 Kb Xp Ih Dh Eh Fh Gh Hh Kh Jh Mh Th
attribute [local go_sem] Oper.semAt_some
theorem cancel_pred (cb : Nat) (t : Int) : Pred 47 cb t fun x => x.1 == t := by
  intro W x h1 hb
  have c0 : W.cell? ⟨cb, 0, none⟩ = some (.int .i64 t) := by simp [World.cell?, hb]
  have hlt : cb < W.heap.size := (Array.getElem?_eq_some_iff.1 hb).1
  obtain ⟨a, b, v⟩ := x
  have c1 : (W.alloc (.cells #[.int .i64 a, .int .i64 b, v] tL)).cell? ⟨cb, 0, none⟩ = some (.int .i64 t) := keepC (below_one _ _) c0 hlt
  clear hb hlt
  unfold agv
  go_enter Try.func47, Try.ntmps47
  go_wp2_with fail
  go_ret
  exact ⟨rfl, below_one _ _⟩
theorem filter_one {L : LT} (hi : Inc L) {x : XT} (hx : x ∈ L) : L.filter (fun y => y.1 == x.1) = [x] := by
  induction L with
  | nil => cases hx
  | cons z L ih =>
    have hi2 := hi
    rw [Inc, List.pairwise_cons] at hi
    rcases List.mem_cons.1 hx with rfl | hx2
    · have : L.filter (fun y => y.1 == x.1) = [] := by
        rw [List.filter_eq_nil_iff]
        intro y hy
        have := hi.1 y hy
        simp
        omega
      rw [List.filter_cons, if_pos (by simp), this]
    · have := hi.1 x hx2
      rw [List.filter_cons, if_neg (by simp; omega)]
      exact ih hi.2 hx2
theorem Ok.cancel {n : Nat} {L : LT} {now last : Int} (h : Ok n L now last) (p : XT → Bool) : Ok n (L.filter p) now last :=
  ⟨h.pos, h.top, h.one.filter _, h.inc.filter _, fun x hx => h.num x (List.mem_filter.1 hx).1, fun x hx => h.tik x (List.mem_filter.1 hx).1, h.now0, h.now1, h.last0, h.last1⟩
theorem look_at {w : World} {mb c : Nat} {D : DataW Unit} {L : LT} (hm : w.ownsMap Try.prog tI (plainElem Try.prog tI) mb c D) (hp : Mp D L) {t : Int} (ht : (Lit.int .i64 t).wf = true) : ∃ cc : Int, (∀ m, (Instr.lookup 96 (.map (some mb)) (.int .i64 t) true).run Try.prog (w.drewN m) = .ok (.tuple #[.int .i64 cc, .bool (lkG L t).isSome]) (w.drewN m)) ∧ ∀ x, lkG L t = some x → cc = x.2.1 := by
  have hkey := keyOf_int_mk Try.underlying3 ht
  have hd : ∀ m, (w.drewN m).ownsMap Try.prog tI (plainElem Try.prog tI) mb c D := fun m => by
    obtain ⟨es, cl, hk, r⟩ := hm
    exact ⟨es, cl, kept (Kb.below_drewN (Below.refl _ w) m) hk, r⟩
  have key : ∀ m, ∃ cc : Int, (Instr.lookup 96 (.map (some mb)) (.int .i64 t) true).run Try.prog (w.drewN m) = .ok (.tuple #[.int .i64 cc, .bool (lkG L t).isSome]) (w.drewN m) ∧ (DataW.lit (.int .i64 cc) : DataW Unit) = D.atKey (.int .i64 t) (.lit (.int .i64 0)) := fun m => by
    obtain ⟨v, ps, hrun, hv⟩ := (hd m).look_ok law Try.underlying96 (zeroI _) (plainElem_int Try.underlying3 (by decide)) hkey
    obtain ⟨cc, rfl, hc, hw⟩ := plainElem_int_inv Try.underlying3 hv
    refine ⟨cc, ?_, (congrArg Prod.fst hc).symm⟩
    rw [hrun, hp.has]
  obtain ⟨cc, -, hcc⟩ := key 0
  refine ⟨cc, fun m => ?_, fun x hx => ?_⟩
  · obtain ⟨c2, h1, h2⟩ := key m
    have : c2 = cc := by
      rw [← hcc] at h2
      simpa using h2
    rw [h1, this]
  · rw [hp.at_ t x hx] at hcc
    simpa using hcc
set_option maxRecDepth 100000 in
set_option maxHeartbeats 1600000 in
theorem cancel_no (w : World) (b : Nat) (B : Nat → Prop) (n : Nat) (L : LT) (now last t : Int) (h : Wl w b B n L now last) (ht : (Lit.int .i64 t).wf = true) (hk : lkG L t = none) :
    Calls Try.prog 38 #[.pointer (some ⟨b, 0, none⟩), .int .i64 t] w fun e w' => e = .returned (.tuple #[Value.pointer none, .int .i64 170]) ∧ Below w.heap.size w w' := by
  obtain ⟨sb, mb, S, c, D, hm, hB⟩ := h
  obtain ⟨y, hy⟩ : ∃ y, w.alloc (.cells #[.int .i64 t] 3) = y := ⟨_, rfl⟩
  have HY : Hid (Below w.heap.size w y) := hy ▸ below_one _ _
  have hmy := hm.keep fun g hg => HY.out.block g (hm.lt g hg)
  obtain ⟨cc, hlk, -⟩ := look_at hmy.map hmy.mp ht
  rw [hk] at hlk
  simp only [Option.isSome_none] at hlk
  have c1 : y.cell? ⟨b, 1, none⟩ = some (.map (some mb)) := by simp [World.cell?, hmy.blk]
  have c2 : y.cell? ⟨w.heap.size, 0, none⟩ = some (.int .i64 t) := by simp [World.cell?, (show y.heap[w.heap.size]? = some (.cells #[.int .i64 t] tI) from hy ▸ h1_0 _ _)]
  clear hm hB hmy hk
  go_enter Try.func38, Try.ntmps38
  go_wp2_with fail
  go_quiet (fail)
  go_wp2_with fail
  go_ret2
  exact ⟨rfl, Kb.below_drewN HY.out _⟩
set_option maxRecDepth 100000 in
set_option maxHeartbeats 1600000 in
theorem cancel_yes (w : World) (b : Nat) (B : Nat → Prop) (n : Nat) (L : LT) (now last t : Int) (x : XT) (h : Wl w b B n L now last) (ok : Ok n L now last) (hl : last ≤ 5864062014805) (ht : (Lit.int .i64 t).wf = true) (hk : lkG L t = some x) :
    Calls Try.prog 38 #[.pointer (some ⟨b, 0, none⟩), .int .i64 t] w fun e w' => e = .returned (.tuple #[x.2.2, .int .i64 0]) ∧ Trn w b B n (L.filter fun y => !(y.1 == t)) now last w' := by
  obtain ⟨sb, mb, S, c, D, hm, hB⟩ := h
  have HB : Hid (∀ g, B g ↔ Bk b sb mb n S g) := hB
  obtain ⟨y, hy⟩ : ∃ y, w.alloc (.cells #[.int .i64 t] 3) = y := ⟨_, rfl⟩
  have HY : Hid (Below w.heap.size w y) := hy ▸ below_one _ _
  have hmy := hm.keep fun g hg => HY.out.block g (hm.lt g hg)
  have HYX : Hid (y.heap[w.heap.size]? = some (.cells #[.int .i64 t] tI)) := hy ▸ h1_0 _ _
  obtain ⟨cc, hlk, hcc⟩ := look_at hmy.map hmy.mp ht
  obtain ⟨hxm, hxt⟩ := lkG_mem hk
  have hx1 := ok.tik x hxm
  have hx0 := ok.now0
  rw [hk] at hlk
  rw [hcc x hk] at hlk
  simp only [Option.isSome_some] at hlk
  have c1 : y.cell? ⟨b, 1, none⟩ = some (.map (some mb)) := by simp [World.cell?, hmy.blk]
  have c2 : y.cell? ⟨w.heap.size, 0, none⟩ = some (.int .i64 t) := by simp [World.cell?, HYX.out]
  have hone := ok.one x hxm
  have HFO : Hid (L.filter (fun y => y.1 == t) = [x]) := by
    show L.filter (fun y => y.1 == t) = [x]
    rw [← hxt]; exact filter_one ok.inc hxm
  have HTK : Hid (∀ m, Calls Try.prog 42 #[.pointer (some ⟨b, 0, none⟩), .int .i64 x.2.1, .func (.func 47) #[] #[.pointer (some ⟨w.heap.size, 0, none⟩)]] (y.drewN m) fun e w' => ∃ v, e = .returned v ∧ TakePost (y.drewN m) b sb mb n S c L now last (fun y => y.1 == t) v w') := fun m =>
    take_m 47 w.heap.size t (fun y => y.1 == t) (enters_of Try.func47 (by kernel_rfl) rfl) (cancel_pred w.heap.size t) (y.drewN m) b sb mb n S c D L now last x.2.1 (hmy.keep fun g hg => (Kb.below_drewN (Below.refl _ y) m).block g (hmy.lt g hg)) ok.one ok.inc ok.num hl ok.pos ok.top (by omega) (fun z hz hp => by
      have : z.1 = x.1 := by rw [hxt]; simpa using hp
      rw [ok.inc.inj hz hxm this]) (kept (Kb.below_drewN (Below.refl _ y) m) HYX.out)
  obtain ⟨x0, tk, th⟩ := x
  dsimp only at HTK hlk hone
  clear hm hB hmy hk hxm hxt hx1 hx0 hcc ok hl
  go_enter Try.func38, Try.ntmps38
  go_wp2_with fail
  go_quiet (fail)
  go_wp2_with fail
  refine (HTK.out _).mono ?_
  rintro e z ⟨v, rfl, ho, S', D', hw, hf, hg⟩
  rw [HFO.out] at ho
  obtain ⟨gg, cap, rfl, -, -⟩ := ho.form (by simp)
  have e1 : z.cell? ⟨gg, 0, none⟩ = some th := by
    have := ho.cells (g := gg) rfl 0 th rfl
    rwa [add_zero] at this
  have HEND : Hid (Trn w b B n (L.filter fun y => !(y.1 == t)) now last z) := by
    have h1 := HY.out.size
    refine ⟨Bk b sb mb n S', ⟨sb, mb, S', c, D', hw, fun g => Iff.rfl⟩, ?_, ?_⟩
    · exact (FrP.of (Kb.below_drewN HY.out _)).trans hf (fun g h => .inl ((HB.out g).2 h))
    · intro g hgg
      rcases hg g hgg with h | h
      · exact .inl ((HB.out g).2 h)
      · have := (Kb.below_drewN HY.out nq).size
        exact .inr (Nat.le_trans this h)
  clear ho hw hf hg HTK c1 c2
  simp only [List.length_cons, List.length_nil]
  go_wp2_with fail
  go_ret2
  exact ⟨rfl, HEND.out⟩
end Go.Proofs.Ytgchdjjafgkcbaa.Ch
/- A request, plain; copied. -/
namespace Go.Proofs.Ytgchdjjafgkcbaa.Pa
set_option linter.unusedVariables false
set_option linter.unusedSimpArgs false
open Go.RowKit Go.Maps Lib0 Kb Xp Ic Ix If Ig Za Zb Zc Zd Ze
abbrev tP : TypeId := 48
structure Rq where
  link : Int
  cls : Int
  num : ByteArray
  stp : ByteArray
  trm : ByteArray
  frm : Int
  to_ : Int
  no : Int
  m1 : ByteArray
  L1 : List Fl
  m2 : ByteArray
  L2 : List Fl
def pcs (r : Rq) (v1 v2 : Value) : Array Value := #[.int .i64 r.link, .int .i64 r.cls, .string r.num, .string r.stp, .string r.trm, .int .i64 r.frm, .int .i64 r.to_, .int .i64 r.no, .string r.m1, v1, .string r.m2, v2]
def pv (r : Rq) (v1 v2 : Value) : Value := .agg (pcs r v1 v2)
def zP : Array Value := #[.int .i64 0, .int .i64 0, .string ⟨#[]⟩, .string ⟨#[]⟩, .string ⟨#[]⟩, .int .i64 0, .int .i64 0, .int .i64 0, .string ⟨#[]⟩, .slice none 0 0, .string ⟨#[]⟩, .slice none 0 0]
def I64 (n : Int) : Prop := -9223372036854775808 ≤ n ∧ n ≤ 9223372036854775807
/-- numbers and texts of a machine -/
structure Ro (r : Rq) : Prop where
  link : I64 r.link
  cls : I64 r.cls
  num : r.num.size ≤ 281474976710656
  stp : r.stp.size ≤ 281474976710656
  trm : r.trm.size ≤ 281474976710656
  to_ : I64 r.to_
  no : I64 r.no
  m1 : r.m1.size ≤ 1000000
  m2 : r.m2.size ≤ 1000000
  f1 : Fo r.L1
  f2 : Fo r.L2
/-- its messages can be read -/
structure Rm (w : World) (r : Rq) (v1 v2 : Value) : Prop where
  one : Ms w r.m1 v1 r.L1
  two : Ms w r.m2 v2 r.L2
theorem Rm.below {w x : World} {r : Rq} {v1 v2 : Value} (h : Rm w r v1 v2) (k : Below w.heap.size w x) : Rm x r v1 v2 := ⟨h.one.below k, h.two.below k⟩
theorem infoP : (Try.prog.info? tP).map (·.size) = some 12 := by kernel_rfl
structure Cp (w y : World) (cs : Array Value) : Prop where
  box : y.heap[w.heap.size]? = some (.cells cs tP (0, 0))
  res : y.heap[w.heap.size + 1]? = some (.cells zP tP (0, 0))
  bel : Below w.heap.size w y
theorem Cp.next {w y x : World} {cs : Array Value} (h : Cp w y cs) (k : Below y.heap.size y x) : Cp w x cs := ⟨kept k h.box, kept k h.res, keepB h.bel k⟩
theorem Cp.set {w y : World} {cs : Array Value} (h : Cp w y cs) (o : Nat) (v : Value) {cs' : Array Value} (hc : cs.setIfInBounds o v = cs') : Cp w (y.setCell ⟨w.heap.size, o, none⟩ v) cs' :=
  ⟨by rw [setCell_heap h.box, hc], by rw [setCell_ne (p := ⟨w.heap.size, o, none⟩) (by show w.heap.size ≠ w.heap.size + 1; omega)]; exact h.res, h.bel.setCell (Nat.le_refl _) _⟩
theorem Cp.cell {w y : World} {cs : Array Value} (h : Cp w y cs) (o : Nat) {v : Value} (hv : cs[o]? = some v) : y.cell? ⟨w.heap.size, o, none⟩ = some v := by simp [World.cell?, h.box, hv]
theorem Cp.frz {w y : World} {cs : Array Value} (h : Cp w y cs) (o : Nat) : y.frozen? ⟨w.heap.size, o, none⟩ = false := by simp [World.frozen?, h.box]
/-- a copy of a request: in memory of its own -/
def PostP (w : World) (r : Rq) (e : Ending) (w' : World) : Prop := ∃ u1 u2, e = .returned (pv r u1 u2) ∧ w'.ownsRow w.heap.size tF 3 u1 r.L1.length (fc r.L1) ∧ w'.ownsRow w.heap.size tF 3 u2 r.L2.length (fc r.L2) ∧ (r.L1 = [] → u1 = .slice none 0 0) ∧ (r.L2 = [] → u2 = .slice none 0 0) ∧ Below w.heap.size w w'
set_option maxRecDepth 100000 in
set_option maxHeartbeats 1600000 in
theorem copied_any (r : Rq) (v1 v2 : Value) (w : World) (ho : Ro r) (hm : Rm w r v1 v2) : Calls Try.prog 25 #[pv r v1 v2] w (PostP w r) := by
  have HM : Hid (Rm w r v1 v2) := hm
  obtain ⟨o1, n1, cap1, rfl⟩ := hm.one.slice
  obtain ⟨o2, n2, cap2, rfl⟩ := hm.two.slice
  obtain ⟨lk, cl, nu, st, tr, fr, to_, no, m1, L1, m2, L2⟩ := r
  have HC : Hid (Cp w ((w.alloc (.cells (pcs ⟨lk, cl, nu, st, tr, fr, to_, no, m1, L1, m2, L2⟩ (.slice o1 n1 cap1) (.slice o2 n2 cap2)) tP)).alloc (.cells zP tP)) (pcs ⟨lk, cl, nu, st, tr, fr, to_, no, m1, L1, m2, L2⟩ (.slice o1 n1 cap1) (.slice o2 n2 cap2))) := ⟨h2_0 _ _ _, h2_1 _ _ _, below_two _ _ _⟩
  have k1 := ho.num
  have k2 := ho.stp
  have k3 := ho.trm
  have HCL : Hid (∀ s : ByteArray, s.size ≤ 281474976710656 → ∀ y, Calls Try.prog 35 #[.string s] y fun e w' => e = .returned (.string s) ∧ Below y.heap.size y w') := fun s hs y => clone_any s y hs
  have c2 := HC.out.cell 2 (v := .string nu) rfl
  unfold pv
  simp only [pcs, zP] at c2 HC ⊢
  clear hm ho
  dsimp only at k1 k2 k3
  go_enter Try.func25, Try.ntmps25
  go_wp2_with fail
  refine (HCL.out nu k1 _).mono ?_
  rintro e y ⟨rfl, hb⟩
  have C1 : Hid (Cp w y #[.int .i64 lk, .int .i64 cl, .string nu, .string st, .string tr, .int .i64 fr, .int .i64 to_, .int .i64 no, .string m1, .slice o1 n1 cap1, .string m2, .slice o2 n2 cap2]) := HC.out.next hb
  clear HC hb c2
  have c2 := C1.out.cell 2 (v := .string nu) rfl
  have f2 := C1.out.frz 2
  have D2 : Hid (Cp w (y.setCell ⟨w.heap.size, 2, none⟩ (.string nu)) #[.int .i64 lk, .int .i64 cl, .string nu, .string st, .string tr, .int .i64 fr, .int .i64 to_, .int .i64 no, .string m1, .slice o1 n1 cap1, .string m2, .slice o2 n2 cap2]) := C1.out.set 2 (.string nu) rfl
  have d2 := D2.out.cell 3 (v := .string st) rfl
  go_wp2_with fail
  refine (HCL.out st k2 _).mono ?_
  rintro e y2 ⟨rfl, hb⟩
  have E2 : Hid (Cp w y2 #[.int .i64 lk, .int .i64 cl, .string nu, .string st, .string tr, .int .i64 fr, .int .i64 to_, .int .i64 no, .string m1, .slice o1 n1 cap1, .string m2, .slice o2 n2 cap2]) := D2.out.next hb
  clear C1 D2 hb c2 f2 d2
  have c3 := E2.out.cell 3 (v := .string st) rfl
  have f3 := E2.out.frz 3
  have D3 : Hid (Cp w (y2.setCell ⟨w.heap.size, 3, none⟩ (.string st)) #[.int .i64 lk, .int .i64 cl, .string nu, .string st, .string tr, .int .i64 fr, .int .i64 to_, .int .i64 no, .string m1, .slice o1 n1 cap1, .string m2, .slice o2 n2 cap2]) := E2.out.set 3 (.string st) rfl
  have d3 := D3.out.cell 4 (v := .string tr) rfl
  go_wp2_with fail
  refine (HCL.out tr k3 _).mono ?_
  rintro e y3 ⟨rfl, hb⟩
  have E3 : Hid (Cp w y3 #[.int .i64 lk, .int .i64 cl, .string nu, .string st, .string tr, .int .i64 fr, .int .i64 to_, .int .i64 no, .string m1, .slice o1 n1 cap1, .string m2, .slice o2 n2 cap2]) := D3.out.next hb
  clear E2 D3 hb c3 f3 d3
  have c4 := E3.out.cell 4 (v := .string tr) rfl
  have f4 := E3.out.frz 4
  have D4 : Hid (Cp w (y3.setCell ⟨w.heap.size, 4, none⟩ (.string tr)) #[.int .i64 lk, .int .i64 cl, .string nu, .string st, .string tr, .int .i64 fr, .int .i64 to_, .int .i64 no, .string m1, .slice o1 n1 cap1, .string m2, .slice o2 n2 cap2]) := E3.out.set 4 (.string tr) rfl
  have d8 := D4.out.cell 8 (v := .string m1) rfl
  have d9 := D4.out.cell 9 (v := .slice o1 n1 cap1) rfl
  have HM1 : Hid (Ms (y3.setCell ⟨w.heap.size, 4, none⟩ (.string tr)) m1 (.slice o1 n1 cap1) L1) := HM.out.one.below D4.out.bel
  have HM2 : Hid (Ms (y3.setCell ⟨w.heap.size, 4, none⟩ (.string tr)) m2 (.slice o2 n2 cap2) L2) := HM.out.two.below D4.out.bel
  go_wp2_with fail
  refine (copy_flat m1 (.slice o1 n1 cap1) L1 _ HM1.out).mono ?_
  rintro e z ⟨u1, rfl, hr, hnl, hb⟩
  have E8 : Hid (Cp w z #[.int .i64 lk, .int .i64 cl, .string nu, .string st, .string tr, .int .i64 fr, .int .i64 to_, .int .i64 no, .string m1, .slice o1 n1 cap1, .string m2, .slice o2 n2 cap2]) := D4.out.next hb
  have HR1 : Hid (z.ownsRow w.heap.size tF 3 u1 L1.length (fc L1)) := own_low hr D4.out.bel.size
  have HN1 : Hid (L1 = [] → u1 = .slice none 0 0) := hnl
  obtain ⟨p1, q1, eu1, -⟩ := own_form hr
  obtain ⟨K1, HK1⟩ : ∃ K1, Hid (L1.length = K1) := ⟨_, rfl⟩
  rw [HK1.out] at eu1 HR1
  subst eu1
  clear hr hnl hb D4 c4 f4 d8 d9 HM1 HM2 E3
  have c8 := E8.out.cell 8 (v := .string m1) rfl
  have c9 := E8.out.cell 9 (v := .slice o1 n1 cap1) rfl
  have f8 := E8.out.frz 8
  have f9 := E8.out.frz 9
  obtain ⟨z2, hz2⟩ : ∃ z2, (z.setCell ⟨w.heap.size, 8, none⟩ (.string m1)).setCell ⟨w.heap.size, 9, none⟩ (.slice p1 K1 q1) = z2 := ⟨_, rfl⟩
  have D9 : Hid (Cp w z2 #[.int .i64 lk, .int .i64 cl, .string nu, .string st, .string tr, .int .i64 fr, .int .i64 to_, .int .i64 no, .string m1, .slice p1 K1 q1, .string m2, .slice o2 n2 cap2]) := hz2 ▸ (E8.out.set 8 (.string m1) rfl).set 9 (.slice p1 K1 q1) rfl
  have d10 := D9.out.cell 10 (v := .string m2) rfl
  have d11 := D9.out.cell 11 (v := .slice o2 n2 cap2) rfl
  have HOUT : Hid (∀ v n xs, z.ownsRow w.heap.size tF 3 v n xs → z2.ownsRow w.heap.size tF 3 v n xs) := fun v n xs h => own_keep h fun g hg => by
    have hne : w.heap.size ≠ g := fun e => by
      obtain ⟨cy, hcy⟩ := own_ty h hg
      rw [← e, E8.out.box] at hcy
      injection hcy with hcy; injection hcy with _ hcy; exact absurd hcy (by decide)
    rw [← hz2, setCell_ne (p := ⟨w.heap.size, 9, none⟩) hne, setCell_ne (p := ⟨w.heap.size, 8, none⟩) hne]
  have HM4 : Hid (Ms z2 m2 (.slice o2 n2 cap2) L2) := HM.out.two.below D9.out.bel
  have HR3 : Hid (z2.ownsRow w.heap.size tF 3 (.slice p1 K1 q1) K1 (fc L1)) := HOUT.out _ _ _ HR1.out
  clear HR1 HOUT HM
  go_wp2_with fail
  refine (copy_flat m2 (.slice o2 n2 cap2) L2 _ HM4.out).mono ?_
  rintro e z3 ⟨u2, rfl, hr, hnl, hb⟩
  clear hz2 c8 c9 f8 f9 d10 d11
  have E10 : Hid (Cp w z3 #[.int .i64 lk, .int .i64 cl, .string nu, .string st, .string tr, .int .i64 fr, .int .i64 to_, .int .i64 no, .string m1, .slice p1 K1 q1, .string m2, .slice o2 n2 cap2]) := D9.out.next hb
  have HR2 : Hid (z3.ownsRow w.heap.size tF 3 u2 L2.length (fc L2)) := own_low hr D9.out.bel.size
  have HR4 : Hid (z3.ownsRow w.heap.size tF 3 (.slice p1 K1 q1) K1 (fc L1)) := own_keep HR3.out fun g hg => by
    obtain ⟨cy, hcy⟩ := own_ty HR3.out hg
    rw [kept hb hcy, hcy]
  have HN2 : Hid (L2 = [] → u2 = .slice none 0 0) := hnl
  obtain ⟨p2, q2, eu2, -⟩ := own_form hr
  obtain ⟨K2, HK2⟩ : ∃ K2, Hid (L2.length = K2) := ⟨_, rfl⟩
  rw [HK2.out] at eu2 HR2
  subst eu2
  clear hr hnl hb D9 HM4 HR3 E8
  have c10 := E10.out.cell 10 (v := .string m2) rfl
  have c11 := E10.out.cell 11 (v := .slice o2 n2 cap2) rfl
  have f10 := E10.out.frz 10
  have f11 := E10.out.frz 11
  obtain ⟨z4, hz4⟩ : ∃ z4, (z3.setCell ⟨w.heap.size, 10, none⟩ (.string m2)).setCell ⟨w.heap.size, 11, none⟩ (.slice p2 K2 q2) = z4 := ⟨_, rfl⟩
  have D11 : Hid (Cp w z4 #[.int .i64 lk, .int .i64 cl, .string nu, .string st, .string tr, .int .i64 fr, .int .i64 to_, .int .i64 no, .string m1, .slice p1 K1 q1, .string m2, .slice p2 K2 q2]) := hz4 ▸ (E10.out.set 10 (.string m2) rfl).set 11 (.slice p2 K2 q2) rfl
  have HOUT : Hid (∀ v n xs, z3.ownsRow w.heap.size tF 3 v n xs → z4.ownsRow w.heap.size tF 3 v n xs) := fun v n xs h => own_keep h fun g hg => by
    have hne : w.heap.size ≠ g := fun e => by
      obtain ⟨cy, hcy⟩ := own_ty h hg
      rw [← e, E10.out.box] at hcy
      injection hcy with hcy; injection hcy with _ hcy; exact absurd hcy (by decide)
    rw [← hz4, setCell_ne (p := ⟨w.heap.size, 11, none⟩) hne, setCell_ne (p := ⟨w.heap.size, 10, none⟩) hne]
  have HX : Hid (z4.heap[w.heap.size]? = some (.cells #[.int .i64 lk, .int .i64 cl, .string nu, .string st, .string tr, .int .i64 fr, .int .i64 to_, .int .i64 no, .string m1, .slice p1 K1 q1, .string m2, .slice p2 K2 q2] tP (0, 0))) := D11.out.box
  have HY : Hid (z4.heap[w.heap.size + 1]? = some (.cells zP tP (0, 0))) := D11.out.res
  go_wp2_with (first | (refine wpList_load_row rfl tP _ rfl w.heap.size rfl _ _ _ _ HX.out Try.underlying48 rfl infoP ?_) | (refine wpList_store_row rfl tP _ _ rfl (w.heap.size + 1) _ rfl rfl _ _ HY.out infoP rfl (by simp [Value.oneCell']) ?_) | fail)
  have HF : Hid (∀ v n xs, z4.ownsRow w.heap.size tF 3 v n xs → (z4.setRow (w.heap.size + 1) #[.int .i64 lk, .int .i64 cl, .string nu, .string st, .string tr, .int .i64 fr, .int .i64 to_, .int .i64 no, .string m1, .slice p1 K1 q1, .string m2, .slice p2 K2 q2]).ownsRow w.heap.size tF 3 v n xs) := fun v n xs h => own_keep h fun g hg => by
    have hne : w.heap.size + 1 ≠ g := fun e => by
      obtain ⟨cy, hcy⟩ := own_ty h hg
      rw [← e, HY.out] at hcy
      injection hcy with hcy; injection hcy with _ hcy; exact absurd hcy (by decide)
    exact setRow_ne hne _
  refine bodyPost_ret (v := pv ⟨lk, cl, nu, st, tr, fr, to_, no, m1, L1, m2, L2⟩ (.slice p1 K1 q1) (.slice p2 K2 q2)) (results_cell_row (fn := Try.f25) rfl _ _ (w.heap.size + 1) tP _ _ _ rfl (setRow_at HY.out #[.int .i64 lk, .int .i64 cl, .string nu, .string st, .string tr, .int .i64 fr, .int .i64 to_, .int .i64 no, .string m1, .slice p1 K1 q1, .string m2, .slice p2 K2 q2]) Try.underlying48 rfl infoP) rfl ⟨.slice p1 K1 q1, .slice p2 K2 q2, rfl, ?_, ?_, HN1.out, HN2.out, below_setRow D11.out.bel (by omega) _⟩
  · rw [HK1.out]; exact HF.out _ _ _ (HOUT.out _ _ _ HR4.out)
  · rw [HK2.out]; exact HF.out _ _ _ (HOUT.out _ _ _ HR2.out)
end Go.Proofs.Ytgchdjjafgkcbaa.Pa
