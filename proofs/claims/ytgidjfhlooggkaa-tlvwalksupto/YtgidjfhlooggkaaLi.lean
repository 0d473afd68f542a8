/- The laws' lists: all lists of nodes, those within too. -/
import Derived.Test.YtgidjfhlooggkaaNp
import Derived.Laws.AppendOwnNone
namespace Go.Proofs.Ytgidjfhlooggkaa.Li
set_option linter.unusedVariables false
set_option linter.unusedSimpArgs false
open Go.RowKit Kb Nt Np
/-- the values that stand for the kids, however deep -/
def lsK : List AT → List Value
  | [] => []
  | .mk _ _ kv ks :: ts => kv :: lsK ks ++ lsK ts
theorem lsK_app : ∀ (a b : List AT), lsK (a ++ b) = lsK a ++ lsK b
  | [], b => by simp [lsK]
  | .mk t v k ks :: a, b => by simp [lsK, lsK_app a b]
theorem lsK_take (ts : List AT) (i : Nat) (h : i < ts.length) : lsK (ts.take (i + 1)) = lsK (ts.take i) ++ (ts[i].kv :: lsK ts[i].kids) := by
  rw [List.take_succ_eq_append_getElem h, lsK_app]
  congr 1
  cases ts[i]
  simp [lsK, AT.kv, AT.kids]
theorem lsK_take_le : ∀ (ts : List AT) (i : Nat), (lsK (ts.take i)).length ≤ (lsK ts).length
  | [], i => by simp
  | .mk t v kv ks :: ts, 0 => by simp [lsK]
  | .mk t v kv ks :: ts, i + 1 => by
    have := lsK_take_le ts i
    simp only [List.take_succ_cons, lsK, List.length_cons, List.length_append]
    omega
theorem oneL {w : World} : ∀ (ts : List AT), rdL w ts → ∀ u ∈ lsK ts, u.oneCell' = true
  | [], _, u, hu => by simp [lsK] at hu
  | .mk t v kv ks :: ts, h, u, hu => by
    unfold rdL at h
    simp only [lsK, List.mem_append, List.mem_cons] at hu
    rcases hu with (rfl | hu) | hu
    · obtain ⟨o, cap, rfl, _⟩ := h.1.1
      simp [Value.oneCell']
    · exact oneL ks h.1.2.1 u hu
    · exact oneL ts h.2 u hu
theorem formL {w : World} {base e size n : Nat} {v : Value} {xs : List Value} (h : w.ownsRow base e size v n xs) : ∃ o cap, v = .slice o n cap := by
  rcases h.2 with ⟨rfl, h0⟩ | ⟨g, cap, cur, rfl, _⟩
  · exact ⟨none, 0, by rw [h0]⟩
  · exact ⟨_, cap, rfl⟩
theorem own_one (w : World) (v : Value) (h : v.oneCell' = true) : (w.alloc (.cells #[v] 23)).ownsRow w.heap.size 23 1 (.slice (some ⟨w.heap.size, 0, none⟩) 1 1) 1 [v] := by
  refine ⟨rfl, .inr ⟨w.heap.size, 1, #[v], rfl, Nat.le_refl _, h1_0 _ _, Nat.le_refl _, by unfold maxLen; omega, rfl, rfl⟩⟩
theorem infoL : (Try.prog.info? 23).map (fun i => (i.zero, i.size, i.bytes)) = some (some (.slice none 0 0), 1, 24) := by kernel_rfl
def PostL (w : World) (l : List Value) (e : Ending) (w' : World) : Prop := ∃ v, e = .returned v ∧ w'.ownsRow w.heap.size 23 1 v l.length l ∧ Below w.heap.size w w'
def ListsC (n : Nat) : Prop := ∀ (ts : List AT) (v : Value) (w : World), SizeOf.sizeOf ts < n → Rdn w v ts → (lsK ts).length ≤ 2000 →
  Calls Try.prog 37 #[v] w (PostL w (v :: lsK ts))
set_option maxRecDepth 100000 in
set_option maxHeartbeats 3200000 in
theorem lists_step {n : Nat} (ih : ListsC n) (ts : List AT) (v : Value) (w : World) (hsz : SizeOf.sizeOf ts < n + 1) (hr : Rdn w v ts) (hL : (lsK ts).length ≤ 2000) :
    Calls Try.prog 37 #[v] w (PostL w (v :: lsK ts)) := by
  have HR : Hid (Rdn w v ts) := hr
  obtain ⟨o, cap, e, hN, -⟩ := hr.row
  obtain ⟨N, HN, hN2⟩ : ∃ N : Nat, Hid (ts.length = N) ∧ N ≤ 1048576 := ⟨_, rfl, hN⟩
  rw [HN.out] at e
  subst e
  obtain ⟨R, HRR⟩ : ∃ R, Hid (lsK ts = R) := ⟨_, rfl⟩
  have HT := fun i => lsK_take_le ts i
  rw [HRR.out] at hL ⊢
  have HZ : Hid (SizeOf.sizeOf ts < n + 1) := hsz
  obtain ⟨ia, hia, hza0, hza1, hza2⟩ := info_parts infoL
  clear hr hN hsz
  replace HT : Hid (∀ i, (lsK (ts.take i)).length ≤ R.length) := fun i => by rw [← HRR.out]; exact HT i
  have O0 : Hid (World.ownsRow (w.alloc (.cells #[.slice o N cap] 23)) w.heap.size 23 1 (.slice (some ⟨w.heap.size, 0, none⟩) 1 1) 1 [.slice o N cap]) := own_one w _ (by simp [Value.oneCell'])
  have B0 : Hid (Below w.heap.size w (w.alloc (.cells #[.slice o N cap] 23))) := below_one w _
  go_enter Try.func37, Try.ntmps37
  go_wp2
  generalize w.alloc (.cells #[.slice o N cap] 23) = w0 at *
  go_loopw [3, 4] (fun vo vi wr => ∃ (i : Nat) (S : List Value), i ≤ N ∧ vi = .int .i64 (i : Int) ∧ Hid (lsK (ts.take i) = S) ∧ wr.ownsRow w.heap.size 23 1 vo (S.length + 1) (.slice o N cap :: S) ∧ Below w.heap.size w wr) (fun _ vi _ => N - (intOf vi).toNat)
  case atStart => exact ⟨0, [], Nat.zero_le _, rfl, by show _ = _; simp [lsK], O0.out, B0.out⟩
  case round =>
    obtain ⟨i, S, hi, rfl, HS, ho, hwr⟩ := hrel
    rename World => wr
    obtain ⟨LS, HLS⟩ : ∃ LS, Hid (S.length = LS) := ⟨_, rfl⟩
    have hLS : LS ≤ 2000 := by have := HT.out i; rw [HS.out, HLS.out] at this; omega
    rw [HLS.out] at ho
    obtain ⟨uo, uc, rfl⟩ := formL ho
    have HO : Hid (World.ownsRow wr w.heap.size 23 1 (.slice uo (LS + 1) uc) (LS + 1) (.slice o N cap :: S)) := ho
    clear ho O0 B0
    by_cases hlt : i < N
    · have hlt' : (i : Int) < (N : Int) := by omega
      have hia2 : i < ts.length := by rw [HN.out]; exact hlt
      have HS2 := lsK_take ts i hia2
      rw [HS.out] at HS2
      have hTi := HT.out (i + 1)
      rw [HS2] at hTi
      have ka := rdL_at ts i hia2 (HR.out.below hwr).kids
      have hzl := kids_lt hia2
      have hz0 := HZ.out
      obtain ⟨x, hx⟩ : ∃ y, y = ts[i] := ⟨_, rfl⟩
      obtain ⟨o', cap', e', _, hc⟩ := (HR.out.below hwr).row
      obtain ⟨a, ea, d0, d1, d2⟩ := hc i hia2
      rw [HN.out] at e'
      obtain ⟨rfl, rfl⟩ : o = o' ∧ cap = cap' := by simpa using e'
      subst ea
      rw [← hx] at HS2 hTi ka hzl d0 d1 d2
      clear hc e' hx
      cases x with
      | mk tag val kv ks =>
      simp only [AT.tag, AT.val, AT.kv, AT.kids] at HS2 hTi ka hzl d0 d1 d2
      obtain ⟨lo, lc, hkv, -⟩ := ka.1.row
      obtain ⟨KL, HKL⟩ : ∃ L, Hid (ks.length = L) := ⟨_, rfl⟩
      rw [HKL.out] at hkv
      subst hkv
      obtain ⟨Q, HQ⟩ : ∃ Q, Hid (lsK ks = Q) := ⟨_, rfl⟩
      rw [HQ.out] at HS2 hTi
      simp only [List.length_append, List.length_cons] at hTi
      have ci := ih ks (.slice lo KL lc) wr (by omega) ka.1 (by rw [HQ.out]; omega)
      have HQ1 : Hid (∀ u ∈ (Value.slice lo KL lc) :: Q, u.oneCell' = true) := by
        have := oneL ks ka.1.kids
        rw [HQ.out] at this
        intro u hu
        rcases List.mem_cons.1 hu with rfl | hu
        · simp [Value.oneCell']
        · exact this u hu
      simp only [HQ.out] at ci
      have hLQ : LS + 1 + Q.length ≤ 2000 := by have := HLS.out; omega
      replace HS2 : Hid (lsK (ts.take (i + 1)) = S ++ (.slice lo KL lc :: Q)) := HS2
      clear ka hzl hz0 hTi
      go_wp2_with fail
      refine ci.mono ?_
      rintro _ y ⟨v2, rfl, j1, j3⟩
      have hb2 : Below w.heap.size w y := hwr.trans (j3.mono hwr.size)
      have HO2 : Hid (World.ownsRow y w.heap.size 23 1 (.slice uo (LS + 1) uc) (LS + 1) (.slice (some a) N cap :: S)) := owns_keep HO.out fun q hq => j3.block q (HO.out.lt q hq).2
      have HLL : Hid ((S ++ (Value.slice lo KL lc :: Q)).length + 1 = LS + 1 + (Q.length + 1)) := by
        show _ = _
        rw [List.length_append, HLS.out, List.length_cons]; omega
      clear HO ci d0 d1 d2
      rw [List.length_cons] at j1
      obtain ⟨LQ, HLQ⟩ : ∃ LQ, Hid (Q.length = LQ) := ⟨_, rfl⟩
      rw [HLQ.out] at hLQ HLL j1
      obtain ⟨g2, c2, rfl, hcl⟩ : ∃ g2 c2, v2 = .slice (some ⟨g2, 0, none⟩) (LQ + 1) c2 ∧ ∀ j u, (Value.slice lo KL lc :: Q)[j]? = some u → y.cell? ((⟨g2, 0, none⟩ : Addr).add j) = some u := by
        rcases j1.2 with ⟨_, hz⟩ | ⟨g, cap, cur, hv, r⟩
        · omega
        · refine ⟨g, cap, hv, fun j u hu => ?_⟩
          subst hv
          exact j1.cells (g := g) rfl j u hu
      have HCL : Hid (∀ j u, (Value.slice lo KL lc :: Q)[j]? = some u → y.cell? ((⟨g2, 0, none⟩ : Addr).add j) = some u) := hcl
      have HQL : Hid ((Value.slice lo KL lc :: Q).length = (LQ + 1) * 1) := by show _ = _; rw [List.length_cons, HLQ.out]; omega
      have hsy : w.heap.size ≤ y.heap.size := hb2.size
      clear hcl j1 j3
      go_wp2_with (at_builtin; refine wpList_append_lies _ rfl _ _ _ rfl w.heap.size 23 ia _ 1 24 Try.underlying29 hia hza0 hza1 hza2 rfl (by omega) _ (LS + 1) _ rfl HO2.out ⟨g2, 0, Option.none⟩ (LQ + 1) c2 (.slice lo KL lc :: Q) rfl HQL.out HCL.out HQ1.out (by omega) (by unfold maxLen; omega) (by omega) hsy y.heap.size rfl ?_; intro g3 c3 w3 own3 gr3 hat3 hlt3)
      have B3 : Below w.heap.size y w3 := (Below.refl w.heap.size y).grown gr3 hsy fun k hk => (HO2.out.lt k hk).1
      refine ⟨⟨i + 1, S ++ (.slice lo KL lc :: Q), by omega, by go_num, HS2, ?_, hb2.trans B3⟩, by simp [intOf]; omega⟩
      rw [HLL.out]
      exact own3
    · have hlt' : ¬ (i : Int) < (N : Int) := by omega
      have HE : Hid (S = R) := by
        have := HS.out
        rw [List.take_of_length_le (by rw [HN.out]; omega), HRR.out] at this
        exact this.symm
      go_wp2
      go_ret
      exact ⟨_, rfl, by rw [← HE.out, List.length_cons, HLS.out]; exact HO.out, hwr⟩
theorem lists_all : ∀ n, ListsC n
  | 0 => fun ts v w h => absurd h (Nat.not_lt_zero _)
  | n + 1 => fun ts v w hsz hr hL => lists_step (lists_all n) ts v w hsz hr hL
theorem lists_any (ts : List AT) (v : Value) (w : World) (hr : Rdn w v ts) (hL : (lsK ts).length ≤ 2000) :
    Calls Try.prog 37 #[v] w (PostL w (v :: lsK ts)) := lists_all _ ts v w (Nat.lt_succ_self _) hr hL
end Go.Proofs.Ytgidjfhlooggkaa.Li
