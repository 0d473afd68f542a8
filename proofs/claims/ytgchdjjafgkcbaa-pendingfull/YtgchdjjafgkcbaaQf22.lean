import Derived.Test.YtgchdjjafgkcbaaQf21
/- Answer. -/
namespace Go.Proofs.Ytgchdjjafgkcbaa.Pw
set_option linter.unusedVariables false
set_option linter.unusedSimpArgs false
open Go.RowKit Go.Maps Lib0 Kb Xp Za Ze Ih Fh Hh Pa Pb Pc Pe Pf Pg Pv
attribute [local go_sem] Oper.semAt_some
attribute [local irreducible] Pb.nl Pb.kl
theorem res_row_tmp {P : Program} {fn : Func} {p u : Tmp} {ty : TypeId} (h : fn.results = #[.cell p ty, .tmp u]) (tmps : Array Value) (w : World) (g : Nat) (t : TypeId) (cs : Array Value) (fr : Nat × Nat) (d : TypeDesc)
    (hp : tmps.getD p undef = .pointer (some ⟨g, 0, none⟩)) (hg : w.heap[g]? = some (.cells cs t fr))
    (hu : P.underlying ty = some d) (hd : (match d with | .struct _ | .array _ _ => true | _ => false) = true) (hi : (P.info? ty).map (·.size) = some cs.size) :
    (results fn tmps).run P w = .ok (.tuple #[.agg cs, tmps.getD u undef]) w := by
  rw [results_cell_tmp h, hp]
  simp only [asAddr, Sem.run_pure, Result.andThen_ok, run_loadVar_row w g t ty cs fr d hg hu hd hi]
theorem pw_inj {α : Type} {β : Type} {f : α → β} {L : List α} (h : L.Pairwise fun a b => f a ≠ f b) {a b : α} (ha : a ∈ L) (hb : b ∈ L) (e : f a = f b) : a = b := by
  induction L with
  | nil => cases ha
  | cons z L ih =>
    rw [List.pairwise_cons] at h
    rcases List.mem_cons.1 ha with ea | ha
    · rcases List.mem_cons.1 hb with eb | hb
      · rw [ea, eb]
      · exact absurd (by rw [ea] at e; exact e) (h.1 b hb)
    · rcases List.mem_cons.1 hb with eb | hb
      · exact absurd (by rw [eb] at e; exact e.symm) (h.1 a ha)
      · exact ih h.2 ha hb
def offT (L : List XQ) (t : Int) : List XQ := L.filter fun y => !(y.1 == t)
theorem off_tx (L : List XQ) (t : Int) : (L.map tx).filter (fun y => !(y.1 == t)) = (offT L t).map tx := by
  unfold offT
  rw [List.filter_map]; rfl
theorem mem_off {L : List XQ} {t : Int} {y : XQ} : y ∈ offT L t ↔ y ∈ L ∧ y.1 ≠ t := by
  unfold offT
  rw [List.mem_filter]
  simp
theorem off_sub (L : List XQ) (t : Int) : (offT L t).Sublist L := List.filter_sublist
theorem inc_inj {L : List XQ} {now last : Int} (h : Ok 256 (L.map tx) now last) {x y : XQ} (hx : x ∈ L) (hy : y ∈ L) (e : x.1 = y.1) : x = y := by
  have hi : (L.map tx).Pairwise fun a b => a.1 < b.1 := h.inc
  rw [List.pairwise_map] at hi
  refine pw_inj (f := fun z : XQ => z.1) (hi.imp (fun {a b} (hab : a.1 < b.1) => ?_)) hx hy e
  show a.1 ≠ b.1
  omega
theorem lk_of {L : List XQ} {now last : Int} (h : Ok 256 (L.map tx) now last) {x : XQ} (hx : x ∈ L) : lkG (L.map tx) x.1 = some (tx x) := lkG_of_mem h.inc (x := tx x) (List.mem_map.2 ⟨x, hx, rfl⟩)
theorem wf_timer {L : List XQ} {now last : Int} (h : Ok 256 (L.map tx) now last) {x : XQ} (hx : x ∈ L) : (Lit.int .i64 x.1).wf = true := by
  have h1 := h.num (tx x) (List.mem_map.2 ⟨x, hx, rfl⟩)
  have h2 := h.last1
  have e : (tx x).1 = x.1 := rfl
  exact Hh.wf64 (by omega) (by omega)
section
variable {w : World} {base b : Nat} {C : Cf} {S : St}
theorem nm_at (h : Iv C S) {x y : XQ} (hx : x ∈ S.LW ++ S.LR) (hy : y ∈ S.LW ++ S.LR) (e : nl x.2.2.2 = nl y.2.2.2) : x = y := pw_inj (f := fun z : XQ => nl z.2.2.2) h.nd hx hy e
theorem ky_at (h : Iv C S) {x y : XQ} (hx : x ∈ S.LW) (hy : y ∈ S.LW) (e : kl x.2.2.2 = kl y.2.2.2) : x = y := pw_inj (f := fun z : XQ => kl z.2.2.2) h.kd hx hy e
theorem iv_offW (h : Iv C S) (t : Int) : Iv C { S with LW := offT S.LW t } := by
  refine ⟨?_, h.okr, fun x hx => ?_, h.nd.sublist ((off_sub S.LW t).append_right S.LR), h.kd.sublist (off_sub S.LW t), ?_, h.lenr, h.old0, h.old1, h.old2⟩
  · have := Ch.Ok.cancel h.okw (fun y => !(y.1 == t))
    rwa [off_tx] at this
  · rcases List.mem_append.1 hx with hx | hx
    · exact h.ro x (List.mem_append.2 (.inl (mem_off.1 hx).1))
    · exact h.ro x (List.mem_append.2 (.inr hx))
  · have h1 : (offT S.LW t).length ≤ S.LW.length := List.length_filter_le _ _
    have := h.lenw
    show ((offT S.LW t).length : Int) ≤ _
    omega
theorem iv_offR (h : Iv C S) (t : Int) : Iv C { S with LR := offT S.LR t } := by
  refine ⟨h.okw, ?_, fun x hx => ?_, h.nd.sublist (List.Sublist.append_left (off_sub S.LR t) S.LW), h.kd, h.lenw, ?_, h.old0, fun x hx => h.old1 x (mem_off.1 hx).1, h.old2⟩
  · have := Ch.Ok.cancel h.okr (fun y => !(y.1 == t))
    rwa [off_tx] at this
  · rcases List.mem_append.1 hx with hx | hx
    · exact h.ro x (List.mem_append.2 (.inl hx))
    · exact h.ro x (List.mem_append.2 (.inr (mem_off.1 hx).1))
  · have h1 : (offT S.LR t).length ≤ S.LR.length := List.length_filter_le _ _
    have := h.lenr
    show ((offT S.LR t).length : Int) ≤ _
    omega
theorem nd_apart (h : Iv C S) {x y : XQ} (hx : x ∈ S.LW) (hy : y ∈ S.LR) : nl x.2.2.2 ≠ nl y.2.2.2 := (List.pairwise_append.1 h.nd).2.2 x hx y hy
theorem mt_offW {Dk Dh : DataW Value} (h : Iv C S) {x : XQ} (hx : x ∈ S.LW) (m : Mt Dk Dh (KPs S.LW) (HPs (S.LW ++ S.LR))) : Mt (Dk.del (kl x.2.2.2)) (Dh.del (nl x.2.2.2)) (KPs (offT S.LW x.1)) (HPs (offT S.LW x.1 ++ S.LR)) := by
  refine ((m.delK x.2.2.2).delH x.2.2.2).congr (fun q => ?_) (fun k q => ?_)
  · constructor
    · rintro ⟨⟨z, hz, rfl⟩, hne⟩
      refine ⟨z, mem_off.2 ⟨hz, fun e => hne ?_⟩, rfl⟩
      rw [inc_inj h.okw hz hx e]
    · rintro ⟨z, hz, rfl⟩
      obtain ⟨h1, h2⟩ := mem_off.1 hz
      exact ⟨⟨z, h1, rfl⟩, fun e => h2 (by rw [ky_at h h1 hx e])⟩
  · constructor
    · rintro ⟨⟨z, hz, e1, e2⟩, hne⟩
      refine ⟨z, ?_, e1, e2⟩
      rcases List.mem_append.1 hz with hz | hz
      · refine List.mem_append.2 (.inl (mem_off.2 ⟨hz, fun e => hne ?_⟩))
        rw [← e2, inc_inj h.okw hz hx e]
      · exact List.mem_append.2 (.inr hz)
    · rintro ⟨z, hz, e1, e2⟩
      rcases List.mem_append.1 hz with hz | hz
      · obtain ⟨h1, h2⟩ := mem_off.1 hz
        exact ⟨⟨z, List.mem_append.2 (.inl h1), e1, e2⟩, fun e => h2 (by rw [← e2] at e; rw [nm_at h (List.mem_append.2 (.inl h1)) (List.mem_append.2 (.inl hx)) e])⟩
      · exact ⟨⟨z, List.mem_append.2 (.inr hz), e1, e2⟩, by rw [← e2]; exact (nd_apart h hx hz).symm⟩
theorem mt_offR {Dk Dh : DataW Value} (h : Iv C S) {x : XQ} (hx : x ∈ S.LR) (m : Mt Dk Dh (KPs S.LW) (HPs (S.LW ++ S.LR))) : Mt Dk (Dh.del (nl x.2.2.2)) (KPs S.LW) (HPs (S.LW ++ offT S.LR x.1)) := by
  refine (m.delH x.2.2.2).congr (fun q => Iff.rfl) (fun k q => ?_)
  constructor
  · rintro ⟨⟨z, hz, e1, e2⟩, hne⟩
    refine ⟨z, ?_, e1, e2⟩
    rcases List.mem_append.1 hz with hz | hz
    · exact List.mem_append.2 (.inl hz)
    · refine List.mem_append.2 (.inr (mem_off.2 ⟨hz, fun e => hne ?_⟩))
      rw [← e2, inc_inj h.okr hz hx e]
  · rintro ⟨z, hz, e1, e2⟩
    rcases List.mem_append.1 hz with hz | hz
    · exact ⟨⟨z, List.mem_append.2 (.inl hz), e1, e2⟩, by rw [← e2]; exact nd_apart h hz hx⟩
    · obtain ⟨h1, h2⟩ := mem_off.1 hz
      exact ⟨⟨z, List.mem_append.2 (.inr h1), e1, e2⟩, fun e => h2 (by rw [← e2] at e; rw [nm_at h (List.mem_append.2 (.inr h1)) (List.mem_append.2 (.inr hx)) e])⟩
theorem hd_setP {x : World} {g k : Nat} {r : Rq} {t : Int} {l : Bool} (h : Hd x base g r t l) {c : Array Value} (hk : x.heap[k]? = some (.cells c tP (0, 0))) (c' : Array Value) : Hd (x.setRow k c') base g r t l := by
  obtain ⟨h0, v1, v2, h1, h2, h3⟩ := h
  exact ⟨h0, v1, v2, (setRow_ne (ty_ne hk h1 (by decide)) c').trans h1, Pj.row_setP hk h2 c', Pj.row_setP hk h3 c'⟩
end
end Go.Proofs.Ytgchdjjafgkcbaa.Pw
/- Answer: of one that waits, of one that is remembered, of none. -/
namespace Go.Proofs.Ytgchdjjafgkcbaa.Py
set_option linter.unusedVariables false
set_option linter.unusedSimpArgs false
open Go.RowKit Go.Maps Lib0 Kb Xp Za Ze Ih Fh Hh Pa Pb Pc Pe Pf Pg Pv Pw
attribute [local go_sem] Oper.semAt_some
attribute [local irreducible] Pb.nl Pb.kl
section
variable {w : World} {base b : Nat} {C : Cf} {S : St}
set_option maxRecDepth 100000 in
set_option maxHeartbeats 3200000 in
theorem ans_wait (h : Tb w base b C S) {x : XQ} (hx : x ∈ S.LW) : Calls Try.prog 15 #[.pointer (some ⟨b, 0, none⟩), .int .i64 x.2.2.2.to_, .int .i64 x.2.2.2.no] w fun e w' => ∃ v1 v2, e = .returned (.tuple #[pv x.2.2.2 v1 v2, .int .i64 0]) ∧ Tb w' base b C { S with LW := offT S.LW x.1 } ∧ w'.ownsRow base tF 3 v1 x.2.2.2.L1.length (fc x.2.2.2.L1) ∧ w'.ownsRow base tF 3 v2 x.2.2.2.L2.length (fc x.2.2.2.L2) ∧ Kt w w' ∧ Below base w w' := by
  obtain ⟨wb, rb, kb, hb, Bw, Br, ck, ch, Dk, Dh, hT, hM, hck, hch⟩ := h.mem
  have HTB : Hid (Tb w base b C S) := h
  have HX : Hid (x ∈ S.LW) := hx
  obtain ⟨y, hy⟩ : ∃ y, w.alloc (.cells #[.int .i64 0, .int .i64 0, .string ⟨#[]⟩, .string ⟨#[]⟩, .string ⟨#[]⟩, .int .i64 0, .int .i64 0, .int .i64 0, .string ⟨#[]⟩, .slice none 0 0, .string ⟨#[]⟩, .slice none 0 0] tP) = y := ⟨_, rfl⟩
  have HY : Hid (Below w.heap.size w y) := hy ▸ below_one _ _
  have HZ : Hid (y.heap[w.heap.size]? = some (.cells zP tP (0, 0))) := hy ▸ h1_0 _ _
  have HTy : Hid (Tm y base b wb rb kb hb Bw Br ck ch Dk Dh C S.old (S.LW.map tx) (S.LR.map tx) S.now S.now S.lw S.lr) := hT.below HY.out
  have HMT : Hid (Mt Dk Dh (KPs S.LW) (HPs (S.LW ++ S.LR))) := hM
  have HBS : Hid (base ≤ w.heap.size) := hT.base_
  have HCK : Hid (ck ≤ S.lw.toNat ∧ ch ≤ S.lw.toNat) := ⟨hck, hch⟩
  have hro := h.iv.ro x (List.mem_append.2 (.inl hx))
  have HRO : Hid (Ro x.2.2.2) := hro
  have hhas : Maps.has Dh (nl x.2.2.2) = true := (hM.hel _).2 ⟨x.2.2.1, x.2.2.2, ⟨x, List.mem_append.2 (.inl hx), rfl, rfl⟩, rfl⟩
  obtain ⟨v, hlk, hat⟩ := Pd.look_held HTy.out.held (nl_of hro)
  have hv : v = .pointer (some ⟨x.2.2.1, 0, none⟩) := by
    rw [hM.at_ x.2.2.1 x.2.2.2 ⟨x, List.mem_append.2 (.inl hx), rfl, rfl⟩] at hat
    simp only [DataW.held.injEq] at hat
    exact hat.symm
  subst hv
  rw [hhas] at hlk
  have hlk0 : (Instr.lookup tMH (.map (some hb)) (nv x.2.2.2) true).run Try.prog y = .ok (.tuple #[.pointer (some ⟨x.2.2.1, 0, none⟩), .bool true]) y := hlk 0
  have HD : Hid (Hd y base x.2.2.1 x.2.2.2 x.1 false) := (h.hw x hx).keep (Kx.of HY.out)
  have HST : Hid (Calls Try.prog 27 #[.pointer (some ⟨b, 0, none⟩), .pointer (some ⟨x.2.2.1, 0, none⟩)] y fun e w' => e = .returned (.tuple #[]) ∧ (∃ Bw2, Tm w' base b wb rb kb hb Bw2 Br ck ch Dk Dh C S.old ((offT S.LW x.1).map tx) (S.LR.map tx) S.now S.now S.lw S.lr) ∧ Kx y w' ∧ Below base y w') := by
    have := stop_wait HTy.out h.iv.okw HD.out (wf_timer h.iv.okw hx) (lk_of h.iv.okw hx)
    rw [off_tx] at this
    exact this
  have c7 := HTy.out.cells.2.2.2.2.2.2.2
  obtain ⟨tim, tik, g, lk, cl_, nu, st, tr, fr, to_, no, m1, L1, m2, L2⟩ := x
  dsimp only at HST HD HRO hlk0 hro HX ⊢
  simp only [nv, nameV] at hlk0
  clear h hx hT hM hck hch hhas hlk hat hro
  go_enter Try.func15, Try.ntmps15
  go_wp2_with fail
  try rw [hy]
  clear hy hlk0 c7
  refine HST.out.mono ?_
  rintro e y2 ⟨rfl, ⟨Bw2, t2⟩, kx2, bl2⟩
  have HT2 : Hid (Tm y2 base b wb rb kb hb Bw2 Br ck ch Dk Dh C S.old ((offT S.LW tim).map tx) (S.LR.map tx) S.now S.now S.lw S.lr) := t2
  have HK2 : Hid (Kx y y2 ∧ Below base y y2) := ⟨kx2, bl2⟩
  have HD2 : Hid (Hd y2 base g ⟨lk, cl_, nu, st, tr, fr, to_, no, m1, L1, m2, L2⟩ tim false) := HD.out.keep kx2
  obtain ⟨-, f13, -⟩ := hd_cells HD2.out
  clear t2 kx2 bl2 HST HD
  go_wp2_with fail
  have HKY : Hid (∃ y3, (Builtin.delete_ #[tMK, tK] 0 #[.map (some kb), kv ⟨lk, cl_, nu, st, tr, fr, to_, no, m1, L1, m2, L2⟩]).run Try.prog y2.drew = .ok (.tuple #[]) y3 ∧ Hid (Tm y3 base b wb rb kb hb Bw2 Br ck ch (Dk.del (kl ⟨lk, cl_, nu, st, tr, fr, to_, no, m1, L1, m2, L2⟩)) Dh C S.old ((offT S.LW tim).map tx) (S.LR.map tx) S.now S.now S.lw S.lr ∧ Kx y y3 ∧ Below base y y3 ∧ Kx y2 y3)) := by
    have t3 := HT2.out.below ((Below.refl _ y2).drew)
    obtain ⟨y3, hr, ho, ht⟩ := t3.keys.drop lawK Try.underlying65 (kl_of HRO.out) 0
    exact ⟨y3, hr, t3.key ho ht, (HK2.out.1.trans (Kx.of ((Below.refl _ y2).drew))).trans (kx_of_map ht), (HK2.out.2.trans (((Below.refl _ y2).drew).mono HT2.out.base_)).trans (turned_below ht t3.low.2.1 t3.base_), (Kx.of ((Below.refl _ y2).drew)).trans (kx_of_map ht)⟩
  obtain ⟨y3, hrun, HT3⟩ := HKY.out
  have d6 := HT2.out.cells.2.2.2.2.2.2.1
  obtain ⟨-, w1, w2, hgx, -⟩ := HD2.out
  obtain ⟨f0, f1, f2, f3, f4, -⟩ := Pj.hcells hgx
  dsimp only at f0 f1 f2 f3 f4
  simp only [kv, keyV] at hrun
  clear hgx HKY f13
  go_region
  have HD3 : Hid (Hd y3 base g ⟨lk, cl_, nu, st, tr, fr, to_, no, m1, L1, m2, L2⟩ tim false) := HD2.out.keep HT3.out.2.2.2
  clear f0 f1 f2 f3 f4 d6 hrun HT2 HD2
  have HFO : Hid (Calls Try.prog 28 #[.pointer (some ⟨b, 0, none⟩), .pointer (some ⟨g, 0, none⟩)] y3 fun e w' => ∃ v1 v2, e = .returned (pv ⟨lk, cl_, nu, st, tr, fr, to_, no, m1, L1, m2, L2⟩ v1 v2) ∧ Tm w' base b wb rb kb hb Bw2 Br ck ch (Dk.del (kl ⟨lk, cl_, nu, st, tr, fr, to_, no, m1, L1, m2, L2⟩)) (Dh.del (nl ⟨lk, cl_, nu, st, tr, fr, to_, no, m1, L1, m2, L2⟩)) C S.old ((offT S.LW tim).map tx) (S.LR.map tx) S.now S.now S.lw S.lr ∧ w'.ownsRow base tF 3 v1 L1.length (fc L1) ∧ w'.ownsRow base tF 3 v2 L2.length (fc L2) ∧ Kx y3 w' ∧ Below base y3 w') := Pj.forget_any HT3.out.1 HD3.out HRO.out
  unfold pv at HFO
  simp only [pcs] at HFO
  go_wp2_with fail
  refine HFO.out.mono ?_
  rintro e y4 ⟨v1, v2, rfl, a1, a2, a3, a4, a5⟩
  obtain ⟨o1, p1, e1, -⟩ := own_form a2
  obtain ⟨o2, p2, e2, -⟩ := own_form a3
  obtain ⟨K1, HK1⟩ : ∃ K1, Hid (L1.length = K1) := ⟨_, rfl⟩
  obtain ⟨K2, HKK⟩ : ∃ K2, Hid (L2.length = K2) := ⟨_, rfl⟩
  rw [HK1.out] at e1
  rw [HKK.out] at e2
  subst e1 e2
  have kxy : Kx y y4 := HT3.out.2.1.trans a4
  have HZ4 : Hid (y4.heap[w.heap.size]? = some (.cells zP tP (0, 0))) := (kxy.block _ _ _ _ HZ.out (by decide) (by decide) (by decide) (by decide)).trans HZ.out
  have HEND : Hid (Tb (y4.setRow w.heap.size #[.int .i64 lk, .int .i64 cl_, .string nu, .string st, .string tr, .int .i64 fr, .int .i64 to_, .int .i64 no, .string m1, .slice o1 K1 p1, .string m2, .slice o2 K2 p2]) base b C { S with LW := offT S.LW tim } ∧ (y4.setRow w.heap.size #[.int .i64 lk, .int .i64 cl_, .string nu, .string st, .string tr, .int .i64 fr, .int .i64 to_, .int .i64 no, .string m1, .slice o1 K1 p1, .string m2, .slice o2 K2 p2]).ownsRow base tF 3 (.slice o1 K1 p1) L1.length (fc L1) ∧ (y4.setRow w.heap.size #[.int .i64 lk, .int .i64 cl_, .string nu, .string st, .string tr, .int .i64 fr, .int .i64 to_, .int .i64 no, .string m1, .slice o1 K1 p1, .string m2, .slice o2 K2 p2]).ownsRow base tF 3 (.slice o2 K2 p2) L2.length (fc L2) ∧ Kt w (y4.setRow w.heap.size #[.int .i64 lk, .int .i64 cl_, .string nu, .string st, .string tr, .int .i64 fr, .int .i64 to_, .int .i64 no, .string m1, .slice o1 K1 p1, .string m2, .slice o2 K2 p2]) ∧ Below base w (y4.setRow w.heap.size #[.int .i64 lk, .int .i64 cl_, .string nu, .string st, .string tr, .int .i64 fr, .int .i64 to_, .int .i64 no, .string m1, .slice o1 K1 p1, .string m2, .slice o2 K2 p2])) := by
    have kxw : Kx w y4 := (Kx.of HY.out).trans kxy
    refine ⟨⟨⟨wb, rb, kb, hb, Bw2, Br, ck, ch, (Dk.del (kl ⟨lk, cl_, nu, st, tr, fr, to_, no, m1, L1, m2, L2⟩)), _, Pj.Tm.setP a1 HZ4.out _, ?_, HCK.out.1, HCK.out.2⟩, fun z hz => ?_, fun z hz => ?_, ?_⟩, Pj.row_setP HZ4.out a2 _, Pj.row_setP HZ4.out a3 _, (Pj.Kx.fresh kxw (Nat.le_refl _) _).kt, below_setRow ((HY.out.mono HBS.out).trans (HT3.out.2.2.1.trans a5)) HBS.out _⟩
    · exact mt_offW HTB.out.iv HX.out HMT.out
    · exact hd_setP ((HTB.out.hw z (mem_off.1 hz).1).keep kxw) HZ4.out _
    · exact hd_setP ((HTB.out.hr z hz).keep kxw) HZ4.out _
    · exact iv_offW HTB.out.iv tim
  clear a1 a2 a3 a4 a5 kxy HFO HT3 HD3
  go_wp2_with (first | (refine wpList_store_row rfl tP _ _ rfl w.heap.size _ rfl rfl _ _ HZ4.out infoP rfl (by simp [Value.oneCell']) ?_) | fail)
  refine bodyPost_ret (v := .tuple #[.agg #[.int .i64 lk, .int .i64 cl_, .string nu, .string st, .string tr, .int .i64 fr, .int .i64 to_, .int .i64 no, .string m1, .slice o1 K1 p1, .string m2, .slice o2 K2 p2], .int .i64 0]) (res_row_tmp (fn := Try.f15) rfl _ _ w.heap.size tP _ _ _ rfl (setRow_at HZ4.out #[.int .i64 lk, .int .i64 cl_, .string nu, .string st, .string tr, .int .i64 fr, .int .i64 to_, .int .i64 no, .string m1, .slice o1 K1 p1, .string m2, .slice o2 K2 p2]) Try.underlying48 rfl infoP) rfl ⟨.slice o1 K1 p1, .slice o2 K2 p2, rfl, HEND.out⟩
set_option maxRecDepth 100000 in
set_option maxHeartbeats 3200000 in
theorem ans_late (h : Tb w base b C S) {x : XQ} (hx : x ∈ S.LR) : Calls Try.prog 15 #[.pointer (some ⟨b, 0, none⟩), .int .i64 x.2.2.2.to_, .int .i64 x.2.2.2.no] w fun e w' => ∃ v1 v2, e = .returned (.tuple #[pv x.2.2.2 v1 v2, .int .i64 193]) ∧ Tb w' base b C { S with LR := offT S.LR x.1 } ∧ w'.ownsRow base tF 3 v1 x.2.2.2.L1.length (fc x.2.2.2.L1) ∧ w'.ownsRow base tF 3 v2 x.2.2.2.L2.length (fc x.2.2.2.L2) ∧ Kt w w' ∧ Below base w w' := by
  obtain ⟨wb, rb, kb, hb, Bw, Br, ck, ch, Dk, Dh, hT, hM, hck, hch⟩ := h.mem
  have HTB : Hid (Tb w base b C S) := h
  have HX : Hid (x ∈ S.LR) := hx
  obtain ⟨y, hy⟩ : ∃ y, w.alloc (.cells #[.int .i64 0, .int .i64 0, .string ⟨#[]⟩, .string ⟨#[]⟩, .string ⟨#[]⟩, .int .i64 0, .int .i64 0, .int .i64 0, .string ⟨#[]⟩, .slice none 0 0, .string ⟨#[]⟩, .slice none 0 0] tP) = y := ⟨_, rfl⟩
  have HY : Hid (Below w.heap.size w y) := hy ▸ below_one _ _
  have HZ : Hid (y.heap[w.heap.size]? = some (.cells zP tP (0, 0))) := hy ▸ h1_0 _ _
  have HTy : Hid (Tm y base b wb rb kb hb Bw Br ck ch Dk Dh C S.old (S.LW.map tx) (S.LR.map tx) S.now S.now S.lw S.lr) := hT.below HY.out
  have HMT : Hid (Mt Dk Dh (KPs S.LW) (HPs (S.LW ++ S.LR))) := hM
  have HBS : Hid (base ≤ w.heap.size) := hT.base_
  have HCK : Hid (ck ≤ S.lw.toNat ∧ ch ≤ S.lw.toNat) := ⟨hck, hch⟩
  have hro := h.iv.ro x (List.mem_append.2 (.inr hx))
  have HRO : Hid (Ro x.2.2.2) := hro
  have hhas : Maps.has Dh (nl x.2.2.2) = true := (hM.hel _).2 ⟨x.2.2.1, x.2.2.2, ⟨x, List.mem_append.2 (.inr hx), rfl, rfl⟩, rfl⟩
  obtain ⟨v, hlk, hat⟩ := Pd.look_held HTy.out.held (nl_of hro)
  have hv : v = .pointer (some ⟨x.2.2.1, 0, none⟩) := by
    rw [hM.at_ x.2.2.1 x.2.2.2 ⟨x, List.mem_append.2 (.inr hx), rfl, rfl⟩] at hat
    simp only [DataW.held.injEq] at hat
    exact hat.symm
  subst hv
  rw [hhas] at hlk
  have hlk0 : (Instr.lookup tMH (.map (some hb)) (nv x.2.2.2) true).run Try.prog y = .ok (.tuple #[.pointer (some ⟨x.2.2.1, 0, none⟩), .bool true]) y := hlk 0
  have HD : Hid (Hd y base x.2.2.1 x.2.2.2 x.1 true) := (h.hr x hx).keep (Kx.of HY.out)
  have HST : Hid (Calls Try.prog 27 #[.pointer (some ⟨b, 0, none⟩), .pointer (some ⟨x.2.2.1, 0, none⟩)] y fun e w' => e = .returned (.tuple #[]) ∧ (∃ Br2, Tm w' base b wb rb kb hb Bw Br2 ck ch Dk Dh C S.old (S.LW.map tx) ((offT S.LR x.1).map tx) S.now S.now S.lw S.lr) ∧ Kx y w' ∧ Below base y w') := by
    have := stop_late HTy.out h.iv.okr HD.out (wf_timer h.iv.okr hx) (lk_of h.iv.okr hx)
    rw [off_tx] at this
    exact this
  have c7 := HTy.out.cells.2.2.2.2.2.2.2
  obtain ⟨tim, tik, g, lk, cl_, nu, st, tr, fr, to_, no, m1, L1, m2, L2⟩ := x
  dsimp only at HST HD HRO hlk0 hro HX ⊢
  simp only [nv, nameV] at hlk0
  clear h hx hT hM hck hch hhas hlk hat hro
  go_enter Try.func15, Try.ntmps15
  go_wp2_with fail
  try rw [hy]
  clear hy hlk0 c7
  refine HST.out.mono ?_
  rintro e y2 ⟨rfl, ⟨Br2, t2⟩, kx2, bl2⟩
  have HT2 : Hid (Tm y2 base b wb rb kb hb Bw Br2 ck ch Dk Dh C S.old (S.LW.map tx) ((offT S.LR tim).map tx) S.now S.now S.lw S.lr) := t2
  have HK2 : Hid (Kx y y2 ∧ Below base y y2) := ⟨kx2, bl2⟩
  have HD2 : Hid (Hd y2 base g ⟨lk, cl_, nu, st, tr, fr, to_, no, m1, L1, m2, L2⟩ tim true) := HD.out.keep kx2
  obtain ⟨-, f13, -⟩ := hd_cells HD2.out
  clear t2 kx2 bl2 HST HD
  go_wp2_with fail
  have HT3 : Hid (Tm y2 base b wb rb kb hb Bw Br2 ck ch Dk Dh C S.old (S.LW.map tx) ((offT S.LR tim).map tx) S.now S.now S.lw S.lr ∧ Kx y y2 ∧ Below base y y2 ∧ Kx y2 y2) := ⟨HT2.out, HK2.out.1, HK2.out.2, Kx.refl _⟩
  have HD3 : Hid (Hd y2 base g ⟨lk, cl_, nu, st, tr, fr, to_, no, m1, L1, m2, L2⟩ tim true) := HD2.out
  clear f13 HT2 HD2
  have HFO : Hid (Calls Try.prog 28 #[.pointer (some ⟨b, 0, none⟩), .pointer (some ⟨g, 0, none⟩)] y2 fun e w' => ∃ v1 v2, e = .returned (pv ⟨lk, cl_, nu, st, tr, fr, to_, no, m1, L1, m2, L2⟩ v1 v2) ∧ Tm w' base b wb rb kb hb Bw Br2 ck ch Dk (Dh.del (nl ⟨lk, cl_, nu, st, tr, fr, to_, no, m1, L1, m2, L2⟩)) C S.old (S.LW.map tx) ((offT S.LR tim).map tx) S.now S.now S.lw S.lr ∧ w'.ownsRow base tF 3 v1 L1.length (fc L1) ∧ w'.ownsRow base tF 3 v2 L2.length (fc L2) ∧ Kx y2 w' ∧ Below base y2 w') := Pj.forget_any HT3.out.1 HD3.out HRO.out
  unfold pv at HFO
  simp only [pcs] at HFO
  go_wp2_with fail
  refine HFO.out.mono ?_
  rintro e y4 ⟨v1, v2, rfl, a1, a2, a3, a4, a5⟩
  obtain ⟨o1, p1, e1, -⟩ := own_form a2
  obtain ⟨o2, p2, e2, -⟩ := own_form a3
  obtain ⟨K1, HK1⟩ : ∃ K1, Hid (L1.length = K1) := ⟨_, rfl⟩
  obtain ⟨K2, HKK⟩ : ∃ K2, Hid (L2.length = K2) := ⟨_, rfl⟩
  rw [HK1.out] at e1
  rw [HKK.out] at e2
  subst e1 e2
  have kxy : Kx y y4 := HT3.out.2.1.trans a4
  have HZ4 : Hid (y4.heap[w.heap.size]? = some (.cells zP tP (0, 0))) := (kxy.block _ _ _ _ HZ.out (by decide) (by decide) (by decide) (by decide)).trans HZ.out
  have HEND : Hid (Tb (y4.setRow w.heap.size #[.int .i64 lk, .int .i64 cl_, .string nu, .string st, .string tr, .int .i64 fr, .int .i64 to_, .int .i64 no, .string m1, .slice o1 K1 p1, .string m2, .slice o2 K2 p2]) base b C { S with LR := offT S.LR tim } ∧ (y4.setRow w.heap.size #[.int .i64 lk, .int .i64 cl_, .string nu, .string st, .string tr, .int .i64 fr, .int .i64 to_, .int .i64 no, .string m1, .slice o1 K1 p1, .string m2, .slice o2 K2 p2]).ownsRow base tF 3 (.slice o1 K1 p1) L1.length (fc L1) ∧ (y4.setRow w.heap.size #[.int .i64 lk, .int .i64 cl_, .string nu, .string st, .string tr, .int .i64 fr, .int .i64 to_, .int .i64 no, .string m1, .slice o1 K1 p1, .string m2, .slice o2 K2 p2]).ownsRow base tF 3 (.slice o2 K2 p2) L2.length (fc L2) ∧ Kt w (y4.setRow w.heap.size #[.int .i64 lk, .int .i64 cl_, .string nu, .string st, .string tr, .int .i64 fr, .int .i64 to_, .int .i64 no, .string m1, .slice o1 K1 p1, .string m2, .slice o2 K2 p2]) ∧ Below base w (y4.setRow w.heap.size #[.int .i64 lk, .int .i64 cl_, .string nu, .string st, .string tr, .int .i64 fr, .int .i64 to_, .int .i64 no, .string m1, .slice o1 K1 p1, .string m2, .slice o2 K2 p2])) := by
    have kxw : Kx w y4 := (Kx.of HY.out).trans kxy
    refine ⟨⟨⟨wb, rb, kb, hb, Bw, Br2, ck, ch, Dk, _, Pj.Tm.setP a1 HZ4.out _, ?_, HCK.out.1, HCK.out.2⟩, fun z hz => ?_, fun z hz => ?_, ?_⟩, Pj.row_setP HZ4.out a2 _, Pj.row_setP HZ4.out a3 _, (Pj.Kx.fresh kxw (Nat.le_refl _) _).kt, below_setRow ((HY.out.mono HBS.out).trans (HT3.out.2.2.1.trans a5)) HBS.out _⟩
    · exact mt_offR HTB.out.iv HX.out HMT.out
    · exact hd_setP ((HTB.out.hw z hz).keep kxw) HZ4.out _
    · exact hd_setP ((HTB.out.hr z (mem_off.1 hz).1).keep kxw) HZ4.out _
    · exact iv_offR HTB.out.iv tim
  clear a1 a2 a3 a4 a5 kxy HFO HT3 HD3
  go_wp2_with (first | (refine wpList_store_row rfl tP _ _ rfl w.heap.size _ rfl rfl _ _ HZ4.out infoP rfl (by simp [Value.oneCell']) ?_) | fail)
  refine bodyPost_ret (v := .tuple #[.agg #[.int .i64 lk, .int .i64 cl_, .string nu, .string st, .string tr, .int .i64 fr, .int .i64 to_, .int .i64 no, .string m1, .slice o1 K1 p1, .string m2, .slice o2 K2 p2], .int .i64 193]) (res_row_tmp (fn := Try.f15) rfl _ _ w.heap.size tP _ _ _ rfl (setRow_at HZ4.out #[.int .i64 lk, .int .i64 cl_, .string nu, .string st, .string tr, .int .i64 fr, .int .i64 to_, .int .i64 no, .string m1, .slice o1 K1 p1, .string m2, .slice o2 K2 p2]) Try.underlying48 rfl infoP) rfl ⟨.slice o1 K1 p1, .slice o2 K2 p2, rfl, HEND.out⟩
set_option maxRecDepth 100000 in
set_option maxHeartbeats 1600000 in
theorem ans_none (h : Tb w base b C S) (to_ no : Int) (h1 : I64 to_) (h2 : I64 no) (hn : ¬ ∃ x ∈ S.LW ++ S.LR, nl x.2.2.2 = nameL to_ no) : Calls Try.prog 15 #[.pointer (some ⟨b, 0, none⟩), .int .i64 to_, .int .i64 no] w fun e w' => e = .returned (.tuple #[.agg zP, .int .i64 192]) ∧ Below w.heap.size w w' := by
  obtain ⟨wb, rb, kb, hb, Bw, Br, ck, ch, Dk, Dh, hT, hM, hck, hch⟩ := h.mem
  obtain ⟨y, hy⟩ : ∃ y, w.alloc (.cells #[.int .i64 0, .int .i64 0, .string ⟨#[]⟩, .string ⟨#[]⟩, .string ⟨#[]⟩, .int .i64 0, .int .i64 0, .int .i64 0, .string ⟨#[]⟩, .slice none 0 0, .string ⟨#[]⟩, .slice none 0 0] tP) = y := ⟨_, rfl⟩
  have HY : Hid (Below w.heap.size w y) := hy ▸ below_one _ _
  have HZ : Hid (y.heap[w.heap.size]? = some (.cells zP tP (0, 0))) := hy ▸ h1_0 _ _
  have hTy := hT.below HY.out
  have hhas : Maps.has Dh (nameL to_ no) = false := by
    cases e : Maps.has Dh (nameL to_ no) with
    | false => rfl
    | true =>
      obtain ⟨g, q, ⟨x, hx, e1, e2⟩, e3⟩ := (hM.hel _).1 e
      exact absurd ⟨x, hx, by rw [e2]; exact e3⟩ hn
  obtain ⟨v, hlk, -⟩ := Pd.look_held hTy.held (name_of to_ no h1 h2)
  rw [hhas] at hlk
  have hlk0 : (Instr.lookup tMH (.map (some hb)) (nameV to_ no) true).run Try.prog y = .ok (.tuple #[v, .bool false]) y := hlk 0
  have c7 := hTy.cells.2.2.2.2.2.2.2
  simp only [nameV] at hlk0
  clear h hT hM hck hch hhas hlk hTy hn
  go_enter Try.func15, Try.ntmps15
  go_wp2_with (first | (refine wpList_store_row rfl tP _ _ rfl w.heap.size _ rfl rfl _ _ HZ.out infoP rfl (by simp [Value.oneCell']) ?_) | fail)
  refine bodyPost_ret (v := .tuple #[.agg #[.int .i64 0, .int .i64 0, .string ⟨#[]⟩, .string ⟨#[]⟩, .string ⟨#[]⟩, .int .i64 0, .int .i64 0, .int .i64 0, .string ⟨#[]⟩, .slice none 0 0, .string ⟨#[]⟩, .slice none 0 0], .int .i64 192]) (res_row_tmp (fn := Try.f15) rfl _ _ w.heap.size tP _ _ _ rfl (setRow_at HZ.out #[.int .i64 0, .int .i64 0, .string ⟨#[]⟩, .string ⟨#[]⟩, .string ⟨#[]⟩, .int .i64 0, .int .i64 0, .int .i64 0, .string ⟨#[]⟩, .slice none 0 0, .string ⟨#[]⟩, .slice none 0 0]) Try.underlying48 rfl infoP) rfl ⟨rfl, below_setRow HY.out (Nat.le_refl _) _⟩
end
end Go.Proofs.Ytgchdjjafgkcbaa.Py
