/- TlvSet: the law out of the contracts; the frame of the row. -/
import Derived.Test.YtgidjfhlooggkabRows
import Derived.WalkKit
import Derived.ProofKit
import Derived.OpenShut
import Derived.ShutString
import Derived.ChangeOld
import Derived.Below
import Derived.JoinedCond
import Derived.Carry
import Derived.SizedLaws
import Derived.Test.YtgidjfhlooggkabKn
import Derived.Test.YtgidjfhlooggkabMd
import Derived.Test.YtgidjfhlooggkabSa
import Derived.Test.YtgidjfhlooggkabMo
import Derived.Test.YtgidjfhlooggkabSl
import Derived.Test.YtgidjfhlooggkabWy
import Derived.Test.YtgidjfhlooggkabSt
namespace Go.Proofs.Ytgidjfhlooggkab.tlvSet
open Go.ChangeShapes Go.WideShapes Go.ChangeAt Go.RowKit
open Go.ChangeMaps (open_string shut_string)
set_option linter.unusedVariables false

theorem own : ownKnob Try.prog.godebug = none := by kernel_rfl

theorem form_of {w : World} {v : Value} {z : List Int} (h : Sl.Lies w v z) : ∃ o n cap, v = .slice o n cap := by
  rcases h with ⟨rfl, -⟩ | ⟨a, cap, rfl, -⟩
  · exact ⟨_, _, _, rfl⟩
  · exact ⟨_, _, _, rfl⟩
theorem raw_of {w : World} {o : Option Addr} {n cap : Nat} {z : List Int} (h : Sl.Lies w (.slice o n cap) z) : Mk.Raw w w.heap.size o n := by
  rcases h with ⟨e, -⟩ | ⟨a, cap', e, h1, h2, h3, h4⟩
  · obtain ⟨rfl, rfl, rfl⟩ : o = none ∧ n = 0 ∧ cap = 0 := by simpa using e
    exact ⟨by omega, fun i hi => absurd hi (by omega)⟩
  · obtain ⟨rfl, rfl, rfl⟩ : o = some a ∧ n = z.length ∧ cap = cap' := by simpa using e
    refine ⟨by unfold maxLen at h2; omega, fun i hi => ⟨a, z[i], rfl, ?_, h3 i hi, ?_⟩⟩
    · have := World.block_lt_of_cell? w _ (h3 i hi); omega
    · have := h4 z[i] (List.getElem_mem hi)
      simp [Lit.wf] at this
      have e1 : IntKind.i64.min = -9223372036854775808 := by decide
      have e2 : IntKind.i64.max = 9223372036854775807 := by decide
      omega
theorem node3 {x : World} {g : Nat} {a b c : Value} {t : TypeId} (h : x.heap[g]? = some (.cells #[a, b, c] t)) : x.cell? ⟨g, 0, none⟩ = some a ∧ x.cell? ⟨g, 1, none⟩ = some b ∧ x.cell? ⟨g, 2, none⟩ = some c := by
  refine ⟨?_, ?_, ?_⟩ <;> simp [World.cell?, h]
theorem steps_few (xs : List Nt.AT) (hg : Ag.good 1 (Nt.er xs)) (hc : Ag.cnt (Nt.er xs) ≤ 60) : (Wk.steps 1 xs).length ≤ 1000 ∧ Wk.dep xs ≤ 900 := by
  refine ⟨by rw [(Ag.wr_good 1 0 xs hg (by omega)).2]; omega, ?_⟩
  have h2 := Ag.dep_few 1 xs hg
  omega
/-- what is found, in both ways of speaking -/
theorem look_tr {ts : List Nt.AT} {ps : List Int} {a : Nt.Tr} (h : Se.lkT (Nt.er ts) ps none = some a) : ∃ b, Fd.look ts ps none = some b ∧ Se.er1 b = a := by
  have e := Se.look_er ps ts none
  simp only [Option.map_none] at e
  rw [h] at e
  cases hl : Fd.look ts ps none with
  | none => rw [hl] at e; exact absurd e (by simp)
  | some b => rw [hl] at e; exact ⟨b, rfl, by simpa using e⟩
theorem look_one {ts : List Nt.AT} {a : Nt.AT} (h : a ∈ ts) : Fd.look ts [a.tag] none ≠ none := by
  have := Se.fst_mem a.tag ts a h rfl
  simp only [Fd.look]
  rw [dif_pos this]
  simp
theorem look_fine {w : World} {v : Value} {ts : List Nt.AT} {ps : List Int} {p0 tag : Int} {v0 : ByteArray} {ks : List Nt.Tr} (h : Nt.Rdn w v ts) (e : Se.lkT (Nt.er ts) (p0 :: ps) none = some (.mk tag v0 ks)) : v0.size ≤ 1048576 ∧ Nt.tagB tag := by
  induction ps generalizing w v ts p0 with
  | nil =>
    simp only [Se.lkT, Se.fst_er] at e
    by_cases hx : Fd.idx p0 ts < ts.length
    · rw [dif_pos hx] at e
      have hk := Nt.rdL_at ts _ hx h.kids
      generalize ts[Fd.idx p0 ts] = a at *
      cases a with
      | mk t v1 kv k1 =>
      simp only [Se.er1, Option.some.injEq, Nt.Tr.mk.injEq] at e
      obtain ⟨rfl, rfl, -⟩ := e
      exact hk.2
    · rw [dif_neg hx] at e; exact absurd e (by simp)
  | cons q ps ih =>
    unfold Se.lkT at e
    rw [Se.fst_er] at e
    by_cases hx : Fd.idx p0 ts < ts.length
    · rw [dif_pos hx] at e
      have hk := Nt.rdL_at ts _ hx h.kids
      generalize ts[Fd.idx p0 ts] = a at *
      cases a with
      | mk t v1 kv k1 =>
      have e' : Se.lkT (Nt.er k1) (q :: ps) none = some (.mk tag v0 ks) := by
        rw [← e]
        simp only [Se.lkT]
        rfl
      exact ih hk.1 (p0 := q) e'
    · rw [dif_neg hx] at e; exact absurd e (by simp)
set_option maxRecDepth 100000 in
set_option maxHeartbeats 6400000 in
theorem walk (v0 : Value) (z0 : List Int) (a1 : Int) (a2 : ByteArray) (w : World) (w0 : Sl.Lies w v0 z0) (w1 : (Lit.int .i64 a1).wf = true) (w2 : a2.size ≤ maxLen) (k2 : a2.size ≤ 1048576) (k0 : z0.length ≤ 1048576) :
    Calls Try.prog 6 #[v0, .int .i64 a1, .string a2] w fun e w' => e = .returned (.bool true) ∧ Below w.heap.size w w' := by
  obtain ⟨oa, na, ca, rfl⟩ := form_of w0
  have HW1 : Hid (-9223372036854775808 ≤ a1 ∧ a1 ≤ 9223372036854775807) := by
    have := w1
    simp [Lit.wf] at this
    have e1 : IntKind.i64.min = -9223372036854775808 := by decide
    have e2 : IntKind.i64.max = 9223372036854775807 := by decide
    exact ⟨by omega, by omega⟩
  clear w1 w2 k0
  have HV : Hid (a2.size ≤ 1048576) := k2
  clear k2
  go_enter Try.func6, Try.ntmps6
  go_wp2_with fail
  refine (Kn.known_any _).mono ?_
  rintro e y0 ⟨rfl, h0⟩
  go_wp2_with fail
  refine (Md.made_any y0 oa na ca (raw_of (Sl.lies_below w0 h0))).mono ?_
  rintro _ y1 ⟨v1, xs, rfl, p1⟩
  have b1 := Kb.keepB h0 p1.below
  obtain ⟨o1, c1, rfl⟩ := p1.own.form
  have HR1 : Hid (Nt.Rdn y1 (.slice o1 xs.length c1) xs) := p1.own.reads
  have HG : Hid (Ag.good 1 (Nt.er xs)) := p1.gd
  obtain ⟨sl1, sl2⟩ := steps_few xs p1.gd p1.few
  have cw := Wy.way_any xs _ a1 y1 HR1.out sl1 sl2 HW1.out.1 HW1.out.2
  obtain ⟨LN, HLN⟩ : ∃ LN, Hid (xs.length = LN) := ⟨_, rfl⟩
  rw [HLN.out] at HR1 cw ⊢
  clear p1 sl1 sl2 w0 h0
  go_wp2_with fail
  refine cw.mono ?_
  clear cw
  rintro _ y2 ⟨pv, ps, rfl, hin, hway, h2⟩
  replace HR1 : Hid (Nt.Rdn y2 (.slice o1 LN c1) xs) := HR1.out.below h2
  replace b1 := Kb.keepB b1 h2
  have HI : Hid (Fd.ints y2 pv ps) := hin
  obtain ⟨po, pc, rfl, hpl, -⟩ := hin
  have HW : Hid (Wy.Way xs ps) := hway
  clear hway h2
  cases ps with
  | nil =>
    have HX : Hid (xs = []) := by
      show xs = []
      cases hx : xs with
      | nil => rfl
      | cons a r => exact absurd rfl (HW.out.some_ (by rw [hx]; simp))
    have B2 := Kb.below_one y2 (.cells #[.int .i64 5] 3)
    have M2 := Kb.h1_0 y2 (.cells #[.int .i64 5] 3)
    have hi5 : Fd.ints (y2.alloc (.cells #[.int .i64 5] 3)) (.slice (some ⟨y2.heap.size, 0, none⟩) 1 1) [5] := by
      refine ⟨_, 1, rfl, by simp, fun i hi => ⟨_, rfl, ?_⟩⟩
      have e0 : i = 0 := by simpa using hi
      subst e0
      rw [Nt.add0]
      unfold World.cell?
      rw [M2]
      rfl
    have cf := Fd.find_any xs [5] _ _ _ (HR1.out.below B2) hi5
    rw [HX.out] at cf
    simp only [Fd.look, Fd.idx, List.length_nil, Nat.lt_irrefl] at cf
    clear M2 hi5
    go_wp2_with fail
    generalize y2.alloc (.cells #[.int .i64 5] 3) = X at *
    refine cf.mono ?_
    clear cf
    rintro _ y3 ⟨h3, rfl⟩
    have b3 := Kb.keepB (Kb.keepB b1 B2) h3
    have hR := Kb.h1_0 y3 (.cells Gj.zn 38)
    have BW : Below y3.heap.size y3 ((y3.alloc (.cells Gj.zn 38)).setRow y3.heap.size Gj.zn) := ⟨rfl, rfl, rfl, by simp [World.setRow], fun k hk => (Kb.setRow_ne (by omega) _).trans (Below.heap_alloc y3 _ k hk)⟩
    have b4 := Kb.keepB b3 BW
    go_wp2_with (refine wpList_store_row rfl 38 _ _ rfl y3.heap.size _ rfl rfl _ _ hR Gj.infoN rfl (by simp [Value.oneCell']) ?_)
    go_ret
    exact ⟨by simp, b4⟩
  | cons p0 ps =>
    obtain ⟨N, HN⟩ : ∃ N, Hid ((p0 :: ps).length = N) := ⟨_, rfl⟩
    have hN1 : 1 ≤ N := by rw [← HN.out]; simp
    have hN2 : N ≤ 1048576 := by rw [← HN.out]; exact hpl
    rw [HN.out] at HI ⊢
    have hN0 : ((N : Int) == 0) = false := by simp; omega
    have cf := Fd.find_any xs (p0 :: ps) _ _ y2 HR1.out HI.out
    cases hlk : Fd.look xs (p0 :: ps) none with
    | none =>
      have hN3 : 1 < N := by
        rcases Nat.lt_or_ge 1 N with h | h
        · exact h
        · obtain ⟨a, ha, e⟩ := HW.out.one (by rw [HN.out]; omega)
          rw [← e] at hlk
          exact absurd hlk (look_one ha)
      have hN4 : 1 < (N : Int) := by omega
      rw [hlk] at cf
      simp only at cf
      clear hlk
      go_wp2_with fail
      refine cf.mono ?_
      clear cf
      rintro _ y3 ⟨h3, rfl⟩
      have b3 := Kb.keepB b1 h3
      have hR := Kb.h1_0 y3 (.cells Gj.zn 38)
      have BW : Below y3.heap.size y3 ((y3.alloc (.cells Gj.zn 38)).setRow y3.heap.size Gj.zn) := ⟨rfl, rfl, rfl, by simp [World.setRow], fun k hk => (Kb.setRow_ne (by omega) _).trans (Below.heap_alloc y3 _ k hk)⟩
      have b4 := Kb.keepB b3 BW
      go_wp2_with (refine wpList_store_row rfl 38 _ _ rfl y3.heap.size _ rfl rfl _ _ hR Gj.infoN rfl (by simp [Value.oneCell']) ?_)
      go_ret
      exact ⟨by simp, b4⟩
    | some a =>
      have hlt : Se.lkT (Nt.er xs) (p0 :: ps) none = some (Se.er1 a) := by
        have := Se.look_er (p0 :: ps) xs none
        rw [hlk] at this
        simpa using this.symm
      rw [hlk] at cf
      simp only at cf
      cases a with
      | mk tag v0 kv ks =>
      simp only [Nt.AT.tag, Nt.AT.val, Nt.AT.kids] at cf
      have HLK : Hid (Se.lkT (Nt.er xs) (p0 :: ps) none = some (.mk tag v0 (Nt.er ks))) := hlt
      have hlast : (p0 :: ps).getLast (by simp) = tag := Se.lk_last _ _ _ _ _ hlt
      clear hlk hlt
      go_wp2_with fail
      refine cf.mono ?_
      clear cf
      rintro _ y3 ⟨h3, kv', aks, rfl, hek, hok⟩
      obtain ⟨ko, kc, rfl⟩ := hok.form
      obtain ⟨KL, HKL⟩ : ∃ KL, Hid (aks.length = KL) := ⟨_, rfl⟩
      rw [HKL.out]
      have b3 := Kb.keepB b1 h3
      have hR := Kb.h1_0 y3 (.cells Gj.zn 38)
      have BW : Below y3.heap.size y3 ((y3.alloc (.cells Gj.zn 38)).setRow y3.heap.size #[.int .i64 tag, .string v0, .slice ko KL kc]) := ⟨rfl, rfl, rfl, by simp [World.setRow], fun k hk => (Kb.setRow_ne (by omega) _).trans (Below.heap_alloc y3 _ k hk)⟩
      have M := Kb.setRow_at hR #[.int .i64 tag, .string v0, .slice ko KL kc]
      have b4 := Kb.keepB b3 BW
      have h4 := Kb.keepB h3 BW
      have HI4 := Fd.ints_below h4 HI.out
      have HR4 : Hid (Nt.Rdn ((y3.alloc (.cells Gj.zn 38)).setRow y3.heap.size #[.int .i64 tag, .string v0, .slice ko KL kc]) (.slice o1 LN c1) xs) := HR1.out.below h4
      have hvs : v0.size ≤ 1048576 ∧ Nt.tagB tag := look_fine HR1.out HLK.out
      clear hok hek h3 BW b3 h4 HR1 HI b1
      go_wp2_with (refine wpList_store_row rfl 38 _ _ rfl y3.heap.size _ rfl rfl _ _ hR Gj.infoN rfl (by simp [Value.oneCell']) ?_)
      generalize (y3.alloc (.cells Gj.zn 38)).setRow y3.heap.size #[.int .i64 tag, .string v0, .slice ko KL kc] = X at *
      generalize y3.heap.size = g at *
      clear hR
      obtain ⟨m0, m1, m2⟩ := node3 M
      have HI5 : Hid (Fd.ints X (.slice po N pc) (p0 :: ps)) := HI4
      obtain ⟨po', pc', epo, -, hcell⟩ := HI4
      obtain ⟨pa, epa, hc⟩ := hcell (N - 1) (by rw [HN.out]; omega)
      obtain rfl : po = po' := by injection epo
      subst epa
      have hcl : X.cell? (pa.add (N - 1)) = some (.int .i64 tag) := by
        rw [hc]
        congr 2
        rw [← hlast, List.getLast_eq_getElem]
        congr 1
        rw [HN.out]
      have ni : ((N - 1 : Nat) : Int) = (N : Int) - 1 := by omega
      clear hc hcell epo hlast
      have hNp : 0 ≤ (N : Int) - 1 := by omega
      have hNq : (N : Int) - 1 < (N : Int) := by omega
      have hcl2 : X.cell? (pa.add ((N : Int) - 1).toNat) = some (.int .i64 tag) := by rw [show ((N : Int) - 1).toNat = N - 1 by omega]; exact hcl
      have hne : (tag != tag) = false := by simp
      go_wp2_with fail
      go_quiet (fail)
      have bq := Kb.below_drewN (Below.refl X.heap.size X) nq
      replace M := Kb.kept bq M
      replace HR4 : Hid (Nt.Rdn (X.drewN nq) (.slice o1 LN c1) xs) := HR4.out.below bq
      replace HI5 : Hid (Fd.ints (X.drewN nq) (.slice (some pa) N pc) (p0 :: ps)) := Fd.ints_below bq HI5.out
      replace b4 := Kb.keepB b4 bq
      clear m0 m1 m2 hcl hcl2 bq hNp hNq ni
      generalize X.drewN nq = X1 at *
      have cs := St.set_any xs p0 ps _ _ a2 X1 HR4.out HI5.out HV.out
      go_wp2_with fail
      refine cs.mono ?_
      clear cs
      rintro e y4 ⟨h4, h5⟩
      rw [HLK.out] at h5
      replace M := Kb.kept h4 M
      replace HR4 : Hid (Nt.Rdn y4 (.slice o1 LN c1) xs) := HR4.out.below h4
      replace HI5 : Hid (Fd.ints y4 (.slice (some pa) N pc) (p0 :: ps)) := Fd.ints_below h4 HI5.out
      replace b4 := Kb.keepB b4 h4
      obtain ⟨m0, m1, m2⟩ := node3 M
      have mk := fun y => Mr.marked_ref tag y hvs.2.1 hvs.2.2
      by_cases hB : Gc.mkd tag = true
      · obtain rfl := h5.1 (.inl hB)
        rw [hB] at mk
        clear h5 hB
        go_wp2_with fail
        refine (mk _).mono ?_
        rintro _ y5 ⟨rfl, rfl⟩
        go_wp2
        go_ret
        exact ⟨by simp, b4⟩
      · have hB2 : Gc.mkd tag = false := by simpa using hB
        have hK := Se.lk_good ps p0 1 (Nt.er xs) none _ HG.out HLK.out hB2
        obtain ⟨v', ats, rfl, hea, hown⟩ := h5.2 hB2 hK
        rw [hB2] at mk
        obtain ⟨L1, L2⟩ := Se.lk_put a2 ps p0 (Nt.er xs) none _ HLK.out
        rw [← hea] at L1 L2
        replace L1 : Hid (Se.lkT (Nt.er ats) (p0 :: ps) none = some (.mk tag a2 (Nt.er ks))) := L1
        replace L2 : Hid (Se.ptT (Nt.er ats) (p0 :: ps) v0 = Nt.er xs) := L2
        replace hK : Hid (Nt.er ks = []) := hK
        replace hB2 : Hid (Gc.mkd tag = false) := hB2
        obtain ⟨o4, c4, rfl⟩ := hown.form
        have HR5 : Hid (Nt.Rdn y4 (.slice o4 ats.length c4) ats) := hown.reads
        obtain ⟨LM, HLM⟩ : ∃ LM, Hid (ats.length = LM) := ⟨_, rfl⟩
        rw [HLM.out] at HR5 ⊢
        clear h5 hB hown hea h4
        go_wp2_with fail
        refine (mk _).mono ?_
        rintro _ y5 ⟨rfl, rfl⟩
        clear mk
        obtain ⟨bb, hbb, ebb⟩ := look_tr L1.out
        have cf := Fd.find_any ats (p0 :: ps) _ _ y5 HR5.out HI5.out
        rw [hbb] at cf
        simp only at cf
        cases bb with
        | mk t9 v9 kv9 ks9 =>
        simp only [Se.er1, Nt.Tr.mk.injEq] at ebb
        obtain ⟨rfl, rfl, -⟩ := ebb
        simp only [Nt.AT.tag, Nt.AT.val, Nt.AT.kids] at cf
        clear hbb m0 m1 m2
        go_wp2_with fail
        refine cf.mono ?_
        clear cf
        rintro _ y6 ⟨h6, kv6, aks6, rfl, -, hok6⟩
        obtain ⟨ko6, kc6, rfl⟩ := hok6.form
        obtain ⟨KL6, HKL6⟩ : ∃ KL, Hid (aks6.length = KL) := ⟨_, rfl⟩
        rw [HKL6.out]
        have hR := Kb.h1_0 y6 (.cells Gj.zn 38)
        have BW : Below y6.heap.size y6 ((y6.alloc (.cells Gj.zn 38)).setRow y6.heap.size #[.int .i64 t9, .string v9, .slice ko6 KL6 kc6]) := ⟨rfl, rfl, rfl, by simp [World.setRow], fun k hk => (Kb.setRow_ne (by omega) _).trans (Below.heap_alloc y6 _ k hk)⟩
        have M6 := Kb.setRow_at hR #[.int .i64 t9, .string v9, .slice ko6 KL6 kc6]
        have h7 := Kb.keepB h6 BW
        replace M := Kb.kept h7 M
        replace HR4 : Hid (Nt.Rdn _ (.slice o1 LN c1) xs) := HR4.out.below h7
        replace HR5 : Hid (Nt.Rdn _ (.slice o4 LM c4) ats) := HR5.out.below h7
        replace HI5 : Hid (Fd.ints _ (.slice (some pa) N pc) (p0 :: ps)) := Fd.ints_below h7 HI5.out
        replace b4 := Kb.keepB b4 h7
        obtain ⟨m0, m1, m2⟩ := node3 M
        clear hok6 h6 BW h7
        go_wp2_with (refine wpList_store_row rfl 38 _ _ rfl y6.heap.size _ rfl rfl _ _ hR Gj.infoN rfl (by simp [Value.oneCell']) ?_)
        generalize (y6.alloc (.cells Gj.zn 38)).setRow y6.heap.size #[.int .i64 t9, .string v9, .slice ko6 KL6 kc6] = X6 at *
        generalize y6.heap.size = g6 at *
        clear hR
        have cs := St.set_any ats p0 ps _ _ v0 X6 HR5.out HI5.out hvs.1
        refine cs.mono ?_
        clear cs
        rintro e y7 ⟨h7, h8⟩
        rw [L1.out] at h8
        obtain ⟨v7, bts, rfl, heb, hown7⟩ := h8.2 hB2.out hK.out
        replace heb : Nt.er bts = Nt.er xs := heb.trans L2.out
        obtain ⟨o7, c7, rfl⟩ := hown7.form
        replace M := Kb.kept h7 M
        replace M6 := Kb.kept h7 M6
        replace b4 := Kb.keepB b4 h7
        have sm := Sa.same_any bts xs _ _ y7 hown7.reads (HR4.out.below h7)
        rw [show Sa.smB bts xs = true from (Sa.smB_er _ _).2 heb] at sm
        obtain ⟨LB, HLB⟩ : ∃ LB, Hid (bts.length = LB) := ⟨_, rfl⟩
        rw [HLB.out] at sm ⊢
        clear h8 hown7 heb HR4 HR5 HI5 h7 m0 m1 m2
        go_wp2_with fail
        refine sm.mono ?_
        clear sm
        rintro _ y8 ⟨rfl, h9⟩
        replace M := Kb.kept h9 M
        replace M6 := Kb.kept h9 M6
        replace b4 := Kb.keepB b4 h9
        obtain ⟨m0, m1, m2⟩ := node3 M
        obtain ⟨n0, n1, n2⟩ := node3 M6
        clear h9 M M6
        go_wp2
        go_ret
        exact ⟨by simp, b4⟩

set_option maxRecDepth 100000 in
theorem contract (H : Type) (enc : TypeId × Value → H) (W : World) (base : Nat) (args : Array Value) (ds gs : List (DataW H)) (before : List MemPlace)
    (hval : ∀ (j : Nat) t v, Try.f6.params[j]? = some t → args[j]? = some v → Value.okWide Try.prog W .any base t v)
    (hW : DataW.Whole enc Try.prog Try.f6.params.toList Rows.tlvSetSpec.vars false W args.toList ds gs before) (hk : Rows.uptoSmall H (ds ++ gs) = true) :
    Calls Try.prog 6 args W fun e W' => ∃ v, e = .returned v ∧ Rows.tlvSetSpec.post enc Try.prog Try.f6 false true false false W args v W' := by
  have hW' := hW
  obtain ⟨p, q, hA0, hV, rfl, hfz, hnd⟩ := hW
  have hA : DataW.TrodAll enc Try.prog W 0 (fun _ => true) true Try.f6.params.toList args.toList ds p := hA0
  rw [Try.params6] at hA hval
  obtain ⟨v0, vs0, d0, ds0, p0, q0, hargs, rfl, rfl, h0, r0⟩ := trodAll_cons hA
  obtain ⟨v1, vs1, d1, ds1, p1, q1, rfl, rfl, rfl, h1, r1⟩ := trodAll_cons r0
  obtain ⟨v2, vs2, d2, ds2, p2, q2, rfl, rfl, rfl, h2, r2⟩ := trodAll_cons r1
  obtain ⟨rfl, rfl, rfl⟩ := trodAll_nil r2
  obtain rfl : args = #[v0, v1, v2] := by cases args; simp_all
  obtain ⟨rfl, rfl⟩ := trodVars_none hV
  obtain ⟨z0, w0, lt0, bulk0⟩ := Sl.open_sl (hval 0 30 v0 rfl rfl) h0
  obtain ⟨a1, rfl, rfl, rfl, w1⟩ := open_int Try.underlying3 (hval 1 3 v1 rfl rfl) h1
  obtain ⟨a2, rfl, rfl, rfl, w2⟩ := open_string Try.underlying9 (hval 2 9 v2 rfl rfl) h2
  clear hA0
  simp only [List.append_nil] at hk
  have hk1 := of_decide_eq_true hk
  simp only [Rows.uptoBulkAll, Rows.uptoBulk] at hk1
  have e2 : a2.data.toList.length = a2.size := by rw [Array.length_toList]; rfl
  have e0 := bulk0
  refine (walk v0 z0 a1 a2 W w0 w1 w2 (by omega) (by omega)).mono fun e W' ⟨he, bel⟩ => ?_
  subst he
  exact ⟨_, rfl, _, _, _, [], _, [], hW', trodAll_mk1 (shut_bool Try.underlying4 _), (trodAll_cons_mk (Below.trod (by kernel_rfl) (by kernel_rfl) (of_decide_eq_true (by kernel_rfl)) h0 bel lt0) (trodAll_cons_mk (shut_int Try.underlying3 w1) (trodAll_cons_mk (shut_string Try.underlying9 w2) trodAll_mk0))), rfl, bel.frame _, fun h => by cases h⟩

set_option maxRecDepth 100000 in
theorem lifted (os : Os) (started : os.Started) (H : Type) (enc : TypeId × Value → H) (F : Stop.Interp) :
    ReturnsInHanded {} Try.checked os 6 .any ((Rows.OpenSpec.upto Rows.tlvSetSpec).pre6 enc Try.prog Try.f6 Rows.tlvSetUptoRow.domain false) (((Rows.OpenSpec.upto Rows.tlvSetSpec).at F).post enc Try.prog Try.f6 false true false false) := by
  refine returnsInHanded_of_cond (C := Try.checked) (s := Rows.OpenSpec.upto Rows.tlvSetSpec) (k := Rows.uptoSmall) rfl own started (by kernel_rfl) Try.func6
    (OpenSpec.witness (enc := enc) (C := Try.checked) (s := Rows.OpenSpec.upto Rows.tlvSetSpec) (k := Rows.uptoSmall) rfl false ⟨#[], #[.slice none 0 0, .int .i64 0, .string .empty], []⟩ 8 (by kernel_rfl) (by kernel_rfl) (by kernel_rfl)
      (x := ([.nil, .lit (.int .i64 0), .lit (.string [])], [], [])) (by kernel_rfl) rfl (by kernel_rfl)) ?_
  intro W base args ds gs before hval hW _ hk _
  exact contract H enc W base args ds gs before hval hW hk

theorem proved : Rows.TlvSetUptoSaid :=
  OpenClaim.holds_of_cond 6 Try.f6 rfl rfl rfl rfl rfl rfl rfl ⟨rfl, rfl, rfl, rfl, rfl⟩ rfl rfl rfl rfl rfl (by kernel_rfl) Try.func6 (by kernel_rfl)
    (of_decide_eq_true (by kernel_rfl)) (by unfold Func.isWrapper; first | (rw [if_pos (by decide +kernel)]; kernel_rfl) | (rw [if_neg (by decide +kernel)]; exact ⟨rfl, rfl⟩))
    (fun os started H enc _ F => lifted os started H enc F)
#print axioms proved
end Go.Proofs.Ytgidjfhlooggkab.tlvSet
