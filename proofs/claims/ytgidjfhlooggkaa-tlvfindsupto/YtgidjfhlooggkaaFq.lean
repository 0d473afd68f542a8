/- The document's first, Find. -/
import Derived.Test.YtgidjfhlooggkaaSt
import Derived.Test.YtgidjfhlooggkaaQt
import Derived.Test.YtgidjfhlooggkaaLw
namespace Go.Proofs.Ytgidjfhlooggkaa.Fq
set_option linter.unusedVariables false
set_option linter.unusedSimpArgs false
open Go.RowKit Kb Ga Gb Gc Gd Nt Se
open Go.Proofs.Ytgidjfhlooggkaa.Fd (idx idxI idx_le idx_hit idx_miss idx_at ints ints_below)
set_option maxRecDepth 100000 in
theorem first_doc (ts : List AT) (T : Int) (v : Value) (w : World) (hr : Rdn w v ts) :
    Calls Try.prog 57 #[v, .int .i64 T] w fun e w' => e = .returned (.int .i64 (idxI T ts)) ∧ w' = w := by
  have HR : Hid (Rdn w v ts) := hr
  obtain ⟨o, cap, e, hN, -⟩ := hr.row
  obtain ⟨N, HN, hN2⟩ : ∃ N : Nat, Hid (ts.length = N) ∧ N ≤ 1048576 := ⟨_, rfl, hN⟩
  rw [HN.out] at e
  subst e
  obtain ⟨R, HRR⟩ : ∃ R, Hid (idxI T ts = R) := ⟨_, rfl⟩
  rw [HRR.out]
  clear hr hN
  go_enter Try.func57, Try.ntmps57
  go_wp2
  go_loopw [5] (fun vi wr => ∃ i : Nat, i ≤ N ∧ vi = .int .i64 (i : Int) ∧ Hid (wr = w ∧ i ≤ idx T ts)) (fun vi _ => N - (intOf vi).toNat)
  case atStart => exact ⟨0, Nat.zero_le _, rfl, rfl, Nat.zero_le _⟩
  case round =>
    obtain ⟨i, hi, rfl, HI⟩ := hrel
    rename World => wr
    have hwr := HI.out.1
    have HX : Hid (i ≤ idx T ts) := HI.out.2
    clear HI
    subst hwr
    by_cases hlt : i < N
    · have hlt' : (i : Int) < (N : Int) := by omega
      have hia : i < ts.length := by rw [HN.out]; exact hlt
      obtain ⟨o', cap', e', _, hc⟩ := HR.out.row
      obtain ⟨a, ea, q0, q1, q2⟩ := hc i hia
      rw [HN.out] at e'
      obtain ⟨rfl, rfl⟩ : o = o' ∧ cap = cap' := by simpa using e'
      subst ea
      by_cases ht : ts[i].tag = T
      · have HE : Hid (R = (i : Int)) := by
          show _ = _
          have h1 := idx_hit T ts i hia HX.out ht
          rw [← HRR.out]; unfold idxI; rw [h1, if_pos hia]
        rw [ht] at q0
        clear hc e' ht q1 q2
        go_wp2
        go_ret
        exact ⟨by rw [HE.out]; rfl, rfl⟩
      · have ht' : (ts[i].tag == T) = false := by simpa using ht
        have HX2 : Hid (i + 1 ≤ idx T ts) := idx_miss T ts i hia HX.out ht
        generalize ts[i].tag = tg at *
        clear hc e' ht q1 q2
        go_wp2
        exact ⟨⟨i + 1, by omega, by go_num, by first | rfl | trivial, HX2.out⟩, by simp [intOf]; omega⟩
    · have hlt' : ¬ (i : Int) < (N : Int) := by omega
      have HE : Hid (R = -1) := by
        show _ = _
        have h1 := HX.out
        rw [← HRR.out]; unfold idxI; rw [if_neg (by rw [HN.out]; omega)]
      go_wp2
      go_ret
      exact ⟨by rw [HE.out]; rfl, rfl⟩
/-- a path that lies, with its room -/
def Pth (w : World) (v : Value) (ps : List Int) : Prop := ∃ (o : Option Addr) (cap : Nat), v = .slice o ps.length cap ∧ ps.length ≤ cap ∧ ps.length ≤ 1048576 ∧ ∀ i (h : i < ps.length), ∃ a, o = some a ∧ w.cell? (a.add i) = some (.int .i64 ps[i])
theorem Pth.ints {w : World} {v : Value} {ps : List Int} (h : Pth w v ps) : ints w v ps := by
  obtain ⟨o, cap, e, _, h1, h2⟩ := h
  exact ⟨o, cap, e, h1, h2⟩
theorem Pth.below {w x : World} {v : Value} {ps : List Int} (h : Pth w v ps) (hb : Below w.heap.size w x) : Pth x v ps := by
  obtain ⟨o, cap, e, h0, hl, hc⟩ := h
  refine ⟨o, cap, e, h0, hl, fun i hi => ?_⟩
  obtain ⟨a, ea, h0⟩ := hc i hi
  exact ⟨a, ea, (hb.cell (World.block_lt_of_cell? w _ h0)).trans h0⟩
theorem add_add (a : Addr) (i : Nat) : (a.add 1).add i = a.add (i + 1) := by
  unfold Addr.add
  by_cases hi0 : i = 0
  · subst hi0; simp
  · rw [if_neg hi0, if_neg (by omega), if_neg (by omega)]; simp only [Addr.mk.injEq, true_and, and_true]; omega
theorem Pth.tail {w : World} {a : Addr} {p q : Int} {ps : List Int} {cap : Nat} (h : Pth w (.slice (some a) (p :: q :: ps).length cap) (p :: q :: ps)) : Pth w (.slice (some (a.add 1)) (q :: ps).length (cap - 1)) (q :: ps) := by
  obtain ⟨o, cap', e, h0, hl, hc⟩ := h
  obtain ⟨rfl, rfl⟩ : some a = o ∧ cap = cap' := by simpa using e
  simp only [List.length_cons] at h0 hl
  refine ⟨some (a.add 1), cap - 1, rfl, by simp only [List.length_cons]; omega, by simp only [List.length_cons]; omega, fun i hi => ?_⟩
  obtain ⟨b, eb, h3⟩ := hc (i + 1) (by simpa using hi)
  injection eb with eb
  subst eb
  refine ⟨_, rfl, ?_⟩
  rw [add_add, h3]
  simp
def f0 : Option AT → Int
  | none => 0
  | some a => a.tag
def f1 : Option AT → ByteArray
  | none => ⟨#[]⟩
  | some a => a.val
def f2 : Option AT → Value
  | none => .slice none 0 0
  | some a => a.kv
def fk : Option AT → List AT
  | none => []
  | some a => a.kids
theorem look_more (ts : List AT) (p : Int) (ps : List Int) (f : Option AT) : Fd.look ts (p :: ps) f = Fd.look ts (p :: ps) none := by simp only [Fd.look]
theorem look_rd {w : World} : ∀ (ps : List Int) (ts : List AT) (f : Option AT), rdL w ts → (∀ a, f = some a → Rdn w a.kv a.kids ∧ a.val.size ≤ 1048576 ∧ tagB a.tag) → ∀ a, Fd.look ts ps f = some a → Rdn w a.kv a.kids ∧ a.val.size ≤ 1048576 ∧ tagB a.tag
  | [], ts, f, _, hf, a, h => hf a h
  | p :: ps, ts, f, hr, hf, a, h => by
    simp only [Fd.look] at h
    split at h
    · rename_i hi
      have hk := rdL_at ts _ hi hr
      exact look_rd ps _ _ hk.1.kids (fun b hb => by injection hb with hb; subst hb; exact hk) a h
    · cases h
theorem f_rd {w : World} {ts : List AT} {ps : List Int} (hr : rdL w ts) : Rdn w (f2 (Fd.look ts ps none)) (fk (Fd.look ts ps none)) ∧ (f1 (Fd.look ts ps none)).size ≤ 1048576 ∧ tagB (f0 (Fd.look ts ps none)) := by
  cases h : Fd.look ts ps none with
  | none => exact ⟨(own_nil w 0).reads, Nat.zero_le _, by show tagB 0; unfold tagB; omega⟩
  | some a => exact look_rd ps ts none hr (fun a h => by cases h) a h
abbrev fv (R : Option AT) : Value := .tuple #[.agg #[.int .i64 (f0 R), .string (f1 R), f2 R], .bool R.isSome]
set_option maxRecDepth 100000 in
set_option maxHeartbeats 3200000 in
theorem find_doc : ∀ (ps : List Int) (ts : List AT) (v u : Value) (w : World), Rdn w v ts → Pth w u ps →
    Calls Try.prog 29 #[v, u] w fun e w' => e = .returned (fv (Fd.look ts ps none)) ∧ Below w.heap.size w w' := by
  intro ps
  induction ps with
  | nil =>
    intro ts v u w hr hp
    obtain ⟨o, cap, rfl, _⟩ := hp
    obtain ⟨lo, lc, e, hLN, -⟩ := hr.row
    obtain ⟨LN, HLN⟩ : ∃ LN : Nat, Hid (ts.length = LN) := ⟨_, rfl⟩
    rw [HLN.out] at e
    subst e
    have n1 := h1_0 w (.cells Bs.zn 40)
    have bb := below_one w (.cells Bs.zn 40)
    show Calls _ _ #[.slice lo LN lc, .slice o 0 cap] w _
    clear hr
    go_enter Try.func29, Try.ntmps29
    go_wp2_with (refine wpList_store_row rfl 40 _ _ rfl w.heap.size _ rfl rfl _ _ n1 Bs.infoN rfl (by simp [Value.oneCell']) ?_)
    exact bodyPost_ret (v := fv none) (Fd.res_row_tmp (p := 4) (u := 5) rfl _ _ w.heap.size _ _ _ _ rfl (setRow_at n1 _) Try.underlying40 rfl Bs.infoN) rfl ⟨rfl, below_setRow bb (Nat.le_refl _) _⟩
  | cons p ps ih =>
    intro ts v u w hr hp
    have HP : Hid (Pth w u (p :: ps)) := hp
    have HR : Hid (Rdn w v ts) := hr
    obtain ⟨o, cap, eu, hcap, hpl, hc⟩ := hp
    obtain ⟨a, ea, cp⟩ := hc 0 (by simp)
    subst ea
    simp only [List.getElem_cons_zero] at cp
    obtain ⟨N, HNN⟩ : ∃ N : Nat, Hid ((p :: ps).length = N) := ⟨_, rfl⟩
    rw [HNN.out] at eu hcap hpl
    subst eu
    obtain ⟨lo, lc, e, hLN, -⟩ := hr.row
    obtain ⟨LN, HLN⟩ : ∃ LN : Nat, Hid (ts.length = LN) := ⟨_, rfl⟩
    rw [HLN.out] at e hLN
    subst e
    have hN1 : 1 ≤ N := by rw [← HNN.out]; simp
    have hz : ((N : Int) == 0) = false := by simp; omega
    have n1 := h1_0 w (.cells Bs.zn 40)
    have bb := below_one w (.cells Bs.zn 40)
    have cp0 : (w.alloc (.cells Bs.zn 40)).cell? (a.add 0) = some (.int .i64 p) := (bb.cell (World.block_lt_of_cell? w _ cp)).trans cp
    have cp1 : (w.alloc (.cells Bs.zn 40)).cell? a = some (.int .i64 p) := by have := cp0; unfold Addr.add at this; simpa using this
    have fd := first_doc ts p (.slice lo LN lc) (w.alloc (.cells Bs.zn 40)) (hr.below bb)
    have HLK : Hid (Fd.look ts (p :: ps) none = if h : idx p ts < ts.length then Fd.look ts[idx p ts].kids ps (some ts[idx p ts]) else none) := rfl
    have hN0 : 0 < (N : Int) := by omega
    clear hr hc
    by_cases hi : idx p ts < ts.length
    case neg =>
      have hx : idxI p ts = -1 := by unfold idxI; rw [if_neg hi]
      have HE : Hid (Fd.look ts (p :: ps) none = none) := by show _ = _; rw [HLK.out, dif_neg hi]
      rw [HE.out]
      rw [hx] at fd
      go_enter Try.func29, Try.ntmps29
      go_wp2_with fail
      refine fd.mono ?_
      rintro _ y ⟨rfl, hy⟩
      rw [hy]
      clear hy fd
      go_wp2_with (refine wpList_store_row rfl 40 _ _ rfl w.heap.size _ rfl rfl _ _ n1 Bs.infoN rfl (by simp [Value.oneCell']) ?_)
      exact bodyPost_ret (v := fv none) (Fd.res_row_tmp (p := 4) (u := 5) rfl _ _ w.heap.size _ _ _ _ rfl (setRow_at n1 _) Try.underlying40 rfl Bs.infoN) rfl ⟨rfl, below_setRow bb (Nat.le_refl _) _⟩
    obtain ⟨I, HI⟩ : ∃ I, Hid (idx p ts = I) := ⟨_, rfl⟩
    have hx : idxI p ts = (I : Int) := by unfold idxI; rw [if_pos hi, HI.out]
    rw [hx] at fd
    have hIl : I < ts.length := by rw [← HI.out]; exact hi
    have HE : Hid (Fd.look ts (p :: ps) none = Fd.look ts[I].kids ps (some ts[I])) := by
      show _ = _; rw [HLK.out, dif_pos hi]; simp only [HI.out]
    rw [HE.out]
    have hI2 : (I : Int) < (LN : Int) := by rw [HLN.out] at hIl; omega
    have rd := HR.out.below bb
    have ka := rdL_at ts I hIl rd.kids
    obtain ⟨o', cap', e', _, hc2⟩ := rd.row
    obtain ⟨b, eb, q0, q1, q2⟩ := hc2 I hIl
    rw [HLN.out] at e'
    obtain ⟨rfl, rfl⟩ : lo = o' ∧ lc = cap' := by simpa using e'
    subst eb
    obtain ⟨x, hxx⟩ : ∃ y, y = ts[I] := ⟨_, rfl⟩
    rw [← hxx] at ka q0 q1 q2 ⊢
    clear hc2 e' hxx rd hx
    cases x with
    | mk tag val kv ks =>
    simp only [AT.tag, AT.val, AT.kv, AT.kids] at ka q0 q1 q2 ⊢
    obtain ⟨ko, kc, hkv, -⟩ := ka.1.row
    obtain ⟨KL, HKL⟩ : ∃ L, Hid (ks.length = L) := ⟨_, rfl⟩
    rw [HKL.out] at hkv
    subst hkv
    cases ps with
    | nil =>
      obtain rfl : N = 1 := by rw [← HNN.out]; rfl
      simp only [Fd.look]
      clear ka ih cp cp0
      go_enter Try.func29, Try.ntmps29
      go_wp2_with fail
      refine fd.mono ?_
      rintro _ y ⟨rfl, hy⟩
      rw [hy]
      clear hy fd
      go_wp2_with (refine wpList_store_row rfl 40 _ _ rfl w.heap.size _ rfl rfl _ _ n1 Bs.infoN rfl (by simp [Value.oneCell']) ?_)
      exact bodyPost_ret (v := fv (some (AT.mk tag val (.slice ko KL kc) ks))) (Fd.res_row_tmp (p := 4) (u := 5) rfl _ _ w.heap.size _ _ _ _ rfl (setRow_at n1 _) Try.underlying40 rfl Bs.infoN) rfl ⟨rfl, below_setRow bb (Nat.le_refl _) _⟩
    | cons q ps =>
      rw [look_more]
      obtain ⟨N1, rfl⟩ : ∃ N1, N = N1 + 1 := ⟨N - 1, by omega⟩
      have hq1 : (q :: ps).length = N1 := by have := HNN.out; simpa using this
      have hN2 : 1 ≤ N1 := by rw [← hq1]; simp
      obtain ⟨C1, rfl⟩ : ∃ C1, cap = C1 + 1 := ⟨cap - 1, by omega⟩
      have pt : Pth w (.slice (some (a.add 1)) N1 C1) (q :: ps) := by
        have h1 := HP.out
        rw [← HNN.out] at h1
        have := h1.tail
        rw [hq1] at this
        simpa using this
      have frd := f_rd (ps := q :: ps) ka.1.kids
      obtain ⟨R, HRR⟩ : ∃ R, Hid (Fd.look ks (q :: ps) none = R) := ⟨_, rfl⟩
      have pc := fun y (hy : Ql.Cl (w.alloc (.cells Bs.zn 40)) y) => ih ks (.slice ko KL kc) (.slice (some (a.add 1)) N1 C1) y (ka.1.below hy) ((pt.below bb).below hy)
      rw [HRR.out] at frd ⊢
      simp only [HRR.out] at pc
      obtain ⟨fo, fc, hf2, -⟩ := frd.1.row
      obtain ⟨fl, Hfl⟩ : ∃ L, Hid ((fk R).length = L) := ⟨_, rfl⟩
      rw [Hfl.out] at hf2
      unfold fv at pc ⊢
      rw [hf2] at pc ⊢
      generalize f0 R = T0 at *
      generalize f1 R = T1 at *
      generalize R.isSome = BS at *
      have bq2 := World.block_lt_of_cell? _ _ q2
      have hz1 : (((N1 + 1 : Nat) : Int) == 1) = false := by simp; omega
      have hc1 : ¬ C1 = 0 := by omega
      have s1 : (1 : Int) ≤ (N1 : Int) + 1 := by omega
      have s2 : (N1 : Int) ≤ (C1 : Int) := by omega
      have s3 : N1 ≤ C1 := by omega
      have s4 : 0 < C1 := by omega
      clear ka ih cp cp0 frd pt hq1 HNN HP HR hf2 q0 q1
      go_enter Try.func29, Try.ntmps29
      go_wp2_with fail
      refine fd.mono ?_
      rintro _ y ⟨rfl, hy⟩
      rw [hy]
      clear hy fd
      go_wp2_with fail
      refine Qt.region_tail 10 1 (C := Ql.Cl (w.alloc (.cells Bs.zn 40))) (by kernel_rfl) rfl (by kernel_rfl) (by kernel_rfl) (by kernel_rfl) ((Below.refl _ _).drew) ?_
      dsimp only [List.take, List.drop]
      repeat (refine wpQuiet_step (fun K hK => ?_); first
        | (refine Ql.q_cell (by rfl) 23 _ rfl (b.add (I * 3)).block _ rfl _ q2 bq2 (fun y => Try.isAgg23 y) (hK _ ?_); clear hK K)
        | (go_simp; apply Exists.intro; refine ⟨fun y hy => ?_, hK _ ?_⟩; (go_at_call 29; exact Ql.cl_of hy (pc y hy)); clear hK K)
        | (go_simp; refine hK _ ?_; clear hK K)
        | (go_simp; refine ⟨_, fun _ _ => rfl, hK _ ?_⟩; clear hK K)
        | (go_simp; refine ⟨_, fun _ _ => ⟨rfl, rfl⟩, hK _ ?_⟩; clear hK K))
      refine wpQuiet_nil ?_
      intro y hy
      have n2 := kept hy n1
      have b2 : Below w.heap.size w y := keepB bb hy
      clear hy pc q2 bq2 cp1 n1 bb
      go_wp2_with (refine wpList_store_row rfl 40 _ _ rfl w.heap.size _ rfl rfl _ _ n2 Bs.infoN rfl (by simp [Value.oneCell']) ?_)
      exact bodyPost_ret (v := .tuple #[.agg #[.int .i64 T0, .string T1, .slice fo fl fc], .bool BS]) (Fd.res_row_tmp (p := 4) (u := 5) rfl _ _ w.heap.size _ _ _ _ rfl (setRow_at n2 _) Try.underlying40 rfl Bs.infoN) rfl ⟨rfl, below_setRow b2 (Nat.le_refl _) _⟩
end Go.Proofs.Ytgidjfhlooggkaa.Fq
