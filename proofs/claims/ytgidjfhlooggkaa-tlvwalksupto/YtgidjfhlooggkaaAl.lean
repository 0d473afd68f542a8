/- The document's All. -/
import Derived.Test.YtgidjfhlooggkaaFd
import Derived.Test.YtgidjfhlooggkaaAg
import Derived.Laws.AppendOwnNone
namespace Go.Proofs.Ytgidjfhlooggkaa.Al
set_option linter.unusedVariables false
set_option linter.unusedSimpArgs false
open Go.RowKit Kb Ga Gb Gc Gd Nt Wk Gj
def sc (l : List El) : List Value := l.flatMap fun x => [.int .i64 (x.1 : Int), .int .i64 x.2.tag, .string x.2.val, x.2.kv]
theorem sc_append (a b : List El) : sc (a ++ b) = sc a ++ sc b := by simp [sc]
theorem sc_len : ∀ l : List El, (sc l).length = l.length * 4
  | [] => rfl
  | x :: l => by
    have e : sc (x :: l) = [.int .i64 (x.1 : Int), .int .i64 x.2.tag, .string x.2.val, x.2.kv] ++ sc l := by simp [sc]
    rw [e, List.length_append, sc_len l, List.length_cons]
    simp
    omega
theorem steps_take (d : Nat) (ts : List AT) (i : Nat) (h : i < ts.length) : steps d (ts.take (i + 1)) = steps d (ts.take i) ++ ((d, ts[i]) :: steps (d + 1) ts[i].kids) := by
  rw [List.take_succ_eq_append_getElem h]
  generalize ts.take i = a
  generalize ts[i] = x
  clear h
  induction a with
  | nil => cases x; simp [steps, AT.kids]
  | cons b a ih =>
    cases b
    simp only [List.cons_append, steps]
    rw [ih]
    simp
theorem steps_take_le (d : Nat) : ∀ (ts : List AT) (i : Nat), (steps d (ts.take i)).length ≤ (steps d ts).length
  | [], i => by simp
  | .mk t v kv ks :: ts, 0 => by simp [steps]
  | .mk t v kv ks :: ts, i + 1 => by
    have := steps_take_le d ts i
    simp only [List.take_succ_cons, steps, List.length_cons, List.length_append]
    omega
theorem dep_at : ∀ (ts : List AT) (i : Nat) (h : i < ts.length), dep ts[i].kids + 1 ≤ dep ts
  | [], i, h => by simp at h
  | .mk t v kv ks :: ts, 0, h => by simp only [List.getElem_cons_zero, AT.kids, dep]; omega
  | .mk t v kv ks :: ts, i + 1, h => by
    have := dep_at ts i (by simpa using h)
    simp only [List.getElem_cons_succ, dep]; omega
theorem formN {w : World} {base e size n : Nat} {v : Value} {xs : List Value} (h : w.ownsRow base e size v n xs) : ∃ o cap, v = .slice o n cap := by
  rcases h.2 with ⟨rfl, h0⟩ | ⟨g, cap, cur, rfl, _⟩
  · exact ⟨none, 0, by rw [h0]⟩
  · exact ⟨_, cap, rfl⟩
theorem oneS {w : World} (d : Nat) (ts : List AT) {v : Value} (h : Rdn w v ts) : ∀ u ∈ sc (steps d ts), u.oneCell' = true := by
  intro u hu
  unfold sc at hu
  rw [List.mem_flatMap] at hu
  obtain ⟨x, hx, hu⟩ := hu
  obtain ⟨o, cap, e⟩ := kv_form (Wr.steps_read d ts h.kids x hx).1.row
  simp only [List.mem_cons, List.not_mem_nil, or_false] at hu
  rcases hu with rfl | rfl | rfl | rfl
  · rfl
  · rfl
  · rfl
  · rw [e]; rfl
theorem infoS : (Try.prog.info? 49).map (fun i => (i.zero, i.size, i.bytes)) = some (some (.agg #[.int .i64 0, .int .i64 0, .string ⟨#[]⟩, .slice none 0 0]), 4, 56) := by kernel_rfl
def PostA (w : World) (l : List El) (e : Ending) (w' : World) : Prop := ∃ v, e = .returned v ∧ w'.ownsRow w.heap.size 49 4 v l.length (sc l) ∧ (l = [] → v = .slice none 0 0) ∧ Below w.heap.size w w'
def AllC (n : Nat) : Prop := ∀ (ts : List AT) (v : Value) (w : World) (d : Nat), SizeOf.sizeOf ts < n → Rdn w v ts → (steps d ts).length ≤ 1000 → d + dep ts ≤ 100000 →
  Calls Try.prog 47 #[v, .int .i64 (d : Int)] w (PostA w (steps d ts))
set_option maxRecDepth 100000 in
set_option maxHeartbeats 3200000 in
theorem all_step {n : Nat} (ih : AllC n) (ts : List AT) (v : Value) (w : World) (d : Nat) (hsz : SizeOf.sizeOf ts < n + 1) (hr : Rdn w v ts) (hL : (steps d ts).length ≤ 1000) (hd : d + dep ts ≤ 100000) :
    Calls Try.prog 47 #[v, .int .i64 (d : Int)] w (PostA w (steps d ts)) := by
  have HR : Hid (Rdn w v ts) := hr
  obtain ⟨o, cap, e, hN, -⟩ := hr.row
  obtain ⟨N, HN, hN2⟩ : ∃ N : Nat, Hid (ts.length = N) ∧ N ≤ 1048576 := ⟨_, rfl, hN⟩
  rw [HN.out] at e
  subst e
  obtain ⟨R, HRR⟩ : ∃ R, Hid (steps d ts = R) := ⟨_, rfl⟩
  have HT := fun i => steps_take_le d ts i
  have HD := fun i hi => dep_at ts i hi
  rw [HRR.out] at hL ⊢
  have HZ : Hid (SizeOf.sizeOf ts < n + 1) := hsz
  obtain ⟨ia, hia, hza0, hza1, hza2⟩ := info_parts infoS
  obtain ⟨DP, HDP⟩ : ∃ DP, Hid (dep ts = DP) := ⟨_, rfl⟩
  rw [HDP.out] at hd
  clear hr hN hsz
  replace HT : Hid (∀ i, (steps d (ts.take i)).length ≤ R.length) := fun i => by rw [← HRR.out]; exact HT i
  replace HD : Hid (∀ i (h : i < ts.length), dep ts[i].kids + 1 ≤ dep ts) := HD
  go_enter Try.func47, Try.ntmps47
  go_wp2
  go_loopw [5, 6] (fun vo vi wr => ∃ (i : Nat) (S : List El), i ≤ N ∧ vi = .int .i64 (i : Int) ∧ Hid (steps d (ts.take i) = S) ∧ wr.ownsRow w.heap.size 49 4 vo S.length (sc S) ∧ Hid (S = [] → vo = .slice none 0 0) ∧ Below w.heap.size w wr) (fun _ vi _ => N - (intOf vi).toNat)
  case atStart => exact ⟨0, [], Nat.zero_le _, rfl, by show _ = _; simp [steps], World.ownsRow_nil _ _ _ _, fun _ => rfl, Below.refl _ _⟩
  case round =>
    obtain ⟨i, S, hi, rfl, HS, ho, HV, hwr⟩ := hrel
    rename World => wr
    obtain ⟨LS, HLS⟩ : ∃ LS, Hid (S.length = LS) := ⟨_, rfl⟩
    have hLS : LS ≤ 1000 := by have := HT.out i; rw [HS.out, HLS.out] at this; omega
    rw [HLS.out] at ho
    obtain ⟨uo, uc, rfl⟩ := formN ho
    have HO : Hid (World.ownsRow wr w.heap.size 49 4 (.slice uo LS uc) LS (sc S)) := ho
    clear ho
    by_cases hlt : i < N
    · have hlt' : (i : Int) < (N : Int) := by omega
      have hia2 : i < ts.length := by rw [HN.out]; exact hlt
      have HS2 := steps_take d ts i hia2
      rw [HS.out] at HS2
      have hTi := HT.out (i + 1)
      rw [HS2] at hTi
      have hDi := HD.out i hia2
      rw [HDP.out] at hDi
      have ka := rdL_at ts i hia2 (HR.out.below hwr).kids
      have hzl := kids_lt hia2
      have hz0 := HZ.out
      obtain ⟨x, hx⟩ : ∃ y, y = ts[i] := ⟨_, rfl⟩
      obtain ⟨o', cap', e', _, hc⟩ := (HR.out.below hwr).row
      obtain ⟨a, ea, d0, d1, d2⟩ := hc i hia2
      rw [HN.out] at e'
      obtain ⟨rfl, rfl⟩ : o = o' ∧ cap = cap' := by simpa using e'
      subst ea
      have HK0 : ∀ y, Below w.heap.size w y → Rdn y ts[i].kv ts[i].kids ∧ y.cell? ⟨(a.add (i * 3)).block, (a.add (i * 3)).off + 2, none⟩ = some ts[i].kv := fun y hy => by
        obtain ⟨o2, cap2, e2, _, hc2⟩ := (HR.out.below hy).row
        obtain ⟨a2, ea2, q0, q1, q2⟩ := hc2 i hia2
        obtain rfl : some a = o2 := by injection e2
        obtain rfl : a = a2 := by injection ea2
        exact ⟨(rdL_at ts i hia2 (HR.out.below hy).kids).1, q2⟩
      rw [← hx] at HS2 hTi hDi ka hzl d0 d1 d2 HK0
      clear hc e' hx
      cases x with
      | mk tag val kv ks =>
      simp only [AT.tag, AT.val, AT.kv, AT.kids] at HS2 hTi hDi ka hzl d0 d1 d2 HK0
      obtain ⟨lo, lc, hkv, -⟩ := ka.1.row
      obtain ⟨KL, HKL⟩ : ∃ L, Hid (ks.length = L) := ⟨_, rfl⟩
      rw [HKL.out] at hkv
      subst hkv
      obtain ⟨Q, HQ⟩ : ∃ Q, Hid (steps (d + 1) ks = Q) := ⟨_, rfl⟩
      rw [HQ.out] at HS2 hTi
      simp only [List.length_append, List.length_cons] at hTi
      have HK : Hid (∀ y, Below w.heap.size w y → Rdn y (.slice lo KL lc) ks ∧ y.cell? ⟨(a.add (i * 3)).block, (a.add (i * 3)).off + 2, none⟩ = some (.slice lo KL lc)) := fun y hy => HK0 y hy
      have ci := fun y (hy : Below w.heap.size w y) => ih ks (.slice lo KL lc) y (d + 1) (by omega) (HK.out y hy).1 (by rw [HQ.out]; omega) (by omega)
      have HQ1 : Hid (∀ u ∈ sc Q, u.oneCell' = true) := by
        have := oneS (d + 1) ks ka.1
        rw [HQ.out] at this
        exact this
      rw [show ((d + 1 : Nat) : Int) = (d : Int) + 1 by omega] at ci
      simp only [HQ.out] at ci
      have hLQ : LS + 1 + Q.length ≤ 1000 := by have := HLS.out; omega
      replace HS2 : Hid (steps d (ts.take (i + 1)) = S ++ ((d, AT.mk tag val (.slice lo KL lc) ks) :: Q)) := HS2
      have hsw : w.heap.size ≤ wr.heap.size := hwr.size
      clear ka hzl hz0 hTi hDi HK0
      go_wp2_with (at_builtin; refine wpList_append_lies _ rfl _ _ _ rfl w.heap.size 49 ia _ 4 56 Try.underlying43 hia hza0 hza1 hza2 rfl (by omega) _ LS _ rfl (HO.out.alloc _) ⟨wr.heap.size, 0, Option.none⟩ 1 1 _ rfl (by rfl) (World.news_of_block (heap_alloc_new wr _)) (by simp [Value.oneCell']) (by omega) (by unfold maxLen; omega) (by omega) (by first | omega | (simp <;> omega)) (wr.heap.size + 1) (by simp) ?_; intro g1 c1 w1 own1 gr1 hat1 hlt1; have B1 := grow3 hsw HO.out gr1; have hb1 : Below w.heap.size w w1 := hwr.trans B1; have k2 := (HK.out w1 hb1).2; have HO1 : Hid (World.ownsRow w1 w.heap.size 49 4 (.slice (some ⟨g1, 0, none⟩) (LS + 1) c1) (LS + 1) (sc S ++ [.int .i64 (d : Int), .int .i64 tag, .string val, .slice lo KL lc])) := own1; clear own1 gr1 hat1 B1 d0 d1 d2)
      refine (ci w1 hb1).mono ?_
      rintro _ y ⟨v2, rfl, j1, j2, j3⟩
      have hb2 : Below w.heap.size w y := hb1.trans (j3.mono hb1.size)
      have HO2 : Hid (World.ownsRow y w.heap.size 49 4 (.slice (some ⟨g1, 0, none⟩) (LS + 1) c1) (LS + 1) (sc S ++ [.int .i64 (d : Int), .int .i64 tag, .string val, .slice lo KL lc])) := owns_keep HO1.out fun q hq => j3.block q (HO1.out.lt q hq).2
      have HSC : Hid (sc S ++ [.int .i64 (d : Int), .int .i64 tag, .string val, .slice lo KL lc] ++ sc Q = sc (S ++ ((d, AT.mk tag val (.slice lo KL lc) ks) :: Q))) := by
        show _ = _
        simp [sc, AT.tag, AT.val, AT.kv]
      have HNE : Hid (S ++ ((d, AT.mk tag val (.slice lo KL lc) ks) :: Q) ≠ []) := by
        show _ ≠ _
        simp
      have HLL : Hid ((S ++ ((d, AT.mk tag val (.slice lo KL lc) ks) :: Q)).length = LS + 1 + Q.length) := by
        show _ = _
        rw [List.length_append, HLS.out, List.length_cons]; omega
      clear HO HO1 k2 ci HK
      obtain ⟨LQ, HLQ⟩ : ∃ LQ, Hid (Q.length = LQ) := ⟨_, rfl⟩
      rw [HLQ.out] at hLQ HLL
      by_cases hq : Q = []
      · have e2 := j2 hq
        subst e2
        have h0 : LQ = 0 := by rw [← HLQ.out, hq]; rfl
        subst h0
        have HOE : Hid (World.ownsRow y w.heap.size 49 4 (.slice (some ⟨g1, 0, none⟩) (LS + 1) c1) (LS + 1) (sc (S ++ ((d, AT.mk tag val (.slice lo KL lc) ks) :: Q)))) := by
          have := HO2.out
          show World.ownsRow _ _ _ _ _ _ _
          rw [← HSC.out, hq]
          simpa [sc] using this
        clear hq j1 j2 j3
        go_wp2_with (at_builtin; refine wpList_append_own_none rfl _ _ _ rfl w.heap.size 49 ia 4 Try.underlying43 hia _ (LS + 1) _ rfl HO2.out rfl ?_)
        refine ⟨⟨i + 1, S ++ ((d, AT.mk tag val (.slice lo KL lc) ks) :: Q), by omega, by go_num, HS2, ?_, fun h => absurd h HNE.out, hb2⟩, by simp [intOf]; omega⟩
        rw [HLL.out]
        exact HOE.out
      · have hq0 : 0 < LQ := by rw [← HLQ.out]; exact List.length_pos_iff.2 hq
        rw [HLQ.out] at j1
        obtain ⟨g2, c2, rfl, hcl⟩ : ∃ g2 c2, v2 = .slice (some ⟨g2, 0, none⟩) LQ c2 ∧ ∀ j u, (sc Q)[j]? = some u → y.cell? ((⟨g2, 0, none⟩ : Addr).add j) = some u := by
          rcases j1.2 with ⟨_, hz⟩ | ⟨g, cap, cur, hv, r⟩
          · omega
          · refine ⟨g, cap, hv, fun j u hu => ?_⟩
            subst hv
            exact j1.cells (g := g) rfl j u hu
        have HCL : Hid (∀ j u, (sc Q)[j]? = some u → y.cell? ((⟨g2, 0, none⟩ : Addr).add j) = some u) := hcl
        have HQL : Hid ((sc Q).length = LQ * 4) := by show _ = _; rw [sc_len, HLQ.out]
        have hsy : w.heap.size ≤ y.heap.size := hb2.size
        clear hcl hq j1 j2 j3
        go_wp2_with (at_builtin; refine wpList_append_lies _ rfl _ _ _ rfl w.heap.size 49 ia _ 4 56 Try.underlying43 hia hza0 hza1 hza2 rfl (by omega) _ (LS + 1) _ rfl HO2.out ⟨g2, 0, Option.none⟩ LQ c2 (sc Q) rfl HQL.out HCL.out HQ1.out hq0 (by unfold maxLen; omega) (by omega) hsy y.heap.size rfl ?_; intro g3 c3 w3 own3 gr3 hat3 hlt3)
        have B3 : Below w.heap.size y w3 := (Below.refl w.heap.size y).grown gr3 hsy fun k hk => (HO2.out.lt k hk).1
        refine ⟨⟨i + 1, S ++ ((d, AT.mk tag val (.slice lo KL lc) ks) :: Q), by omega, by go_num, HS2, ?_, fun h => absurd h HNE.out, hb2.trans B3⟩, by simp [intOf]; omega⟩
        rw [HLL.out, ← HSC.out]
        exact own3
    · have hlt' : ¬ (i : Int) < (N : Int) := by omega
      have HE : Hid (S = R) := by
        have := HS.out
        rw [List.take_of_length_le (by rw [HN.out]; omega), HRR.out] at this
        exact this.symm
      go_wp2
      go_ret
      exact ⟨_, rfl, by rw [← HE.out, HLS.out]; exact HO.out, fun h => HV.out (HE.out.trans h), hwr⟩
theorem all_all : ∀ n, AllC n
  | 0 => fun ts v w d h => absurd h (Nat.not_lt_zero _)
  | n + 1 => fun ts v w d hsz hr hL hd => all_step (all_all n) ts v w d hsz hr hL hd
set_option maxRecDepth 100000 in
theorem all_ref (ts : List AT) (v : Value) (w : World) (hr : Rdn w v ts) (hL : (steps 1 ts).length ≤ 1000) (hd : dep ts ≤ 1000) :
    Calls Try.prog 24 #[v] w (PostA w (steps 1 ts)) := by
  have c := all_all _ ts v w 1 (Nat.lt_succ_self _) hr hL (by omega)
  obtain ⟨o, cap, e, hN, -⟩ := hr.row
  generalize ts.length = N at *
  subst e
  generalize steps 1 ts = R at *
  clear hr hL
  go_enter Try.func24, Try.ntmps24
  go_wp2_with fail
  refine c.mono ?_
  rintro _ y ⟨v, rfl, h1, h2, h3⟩
  obtain ⟨uo, uc, rfl⟩ := formN h1
  have HH : Hid (PostA w R (.returned (.slice uo R.length uc)) y) := ⟨_, rfl, h1, h2, h3⟩
  clear h1 h2 h3
  generalize R.length = LR at *
  go_wp2
  go_ret
  exact HH.out
end Go.Proofs.Ytgidjfhlooggkaa.Al
