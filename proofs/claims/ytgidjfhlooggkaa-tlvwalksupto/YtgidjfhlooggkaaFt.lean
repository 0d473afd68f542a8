/- The laws' small: few nodes, not deep. -/
import Derived.Test.YtgidjfhlooggkaaLi
import Derived.Test.YtgidjfhlooggkaaWk
import Derived.Test.YtgidjfhlooggkaaGd
import Derived.BigQuiet
namespace Go.Proofs.Ytgidjfhlooggkaa.Ft
set_option linter.unusedVariables false
set_option linter.unusedSimpArgs false
open Go.RowKit Kb Ga Gb Gc Gd Nt Li Wk
def Cb (w : World) (g : Nat) (m : Int) : Prop := w.heap[g]? = some (.cells #[.int .i64 m] 72)
theorem Cb.at {w : World} {g : Nat} {m : Int} (h : Cb w g m) : w.cell? ⟨g, 0, none⟩ = some (.int .i64 m) ∧ w.frozen? ⟨g, 0, none⟩ = false := by
  have h' : w.heap[g]? = some (.cells #[.int .i64 m] 72) := h
  constructor <;> simp [World.cell?, World.frozen?, h']
theorem Cb.set {w : World} {g : Nat} {m : Int} (h : Cb w g m) (x : Int) : Cb (w.setCell ⟨g, 0, none⟩ (.int .i64 x)) g x := by unfold Cb; rw [setCell_heap h]; rfl
def kk : List AT → Nat
  | [] => 0
  | .mk _ _ _ ks :: ts => (lsK ks).length + kk ts
theorem kk_ls : ∀ ts : List AT, (lsK ts).length = ts.length + kk ts
  | [] => by simp [lsK, kk]
  | .mk _ _ _ ks :: ts => by
    have := kk_ls ts
    simp only [lsK, kk, List.length_append, List.length_cons]
    omega
theorem kk_take : ∀ (ts : List AT) (i : Nat) (h : i < ts.length), kk (ts.take (i + 1)) = kk (ts.take i) + (lsK ts[i].kids).length
  | [], i, h => by simp at h
  | .mk _ _ _ ks :: ts, 0, h => by simp [kk, AT.kids]
  | .mk _ _ _ ks :: ts, i + 1, h => by
    have := kk_take ts i (by simpa using h)
    simp only [List.take_succ_cons, kk, List.getElem_cons_succ, this]
    omega
theorem dep_take : ∀ (ts : List AT) (i : Nat) (h : i < ts.length), dep (ts.take (i + 1)) = max (dep (ts.take i)) (dep ts[i].kids + 1)
  | [], i, h => by simp at h
  | .mk _ _ _ ks :: ts, 0, h => by simp [dep, AT.kids]
  | .mk _ _ _ ks :: ts, i + 1, h => by
    have := dep_take ts i (by simpa using h)
    simp only [List.take_succ_cons, dep, List.getElem_cons_succ, this]
    omega
/-- what it tells -/
def PostF (w : World) (g : Nat) (m d L DP : Nat) (e : Ending) (w' : World) : Prop := ∃ (b : Bool) (m' : Int), e = .returned (.bool b) ∧ Cb w' g m' ∧ w.grownBy w' (some g) ∧ Hid (b = true → m' = ((m + L : Nat) : Int) ∧ m + L ≤ 700 ∧ DP + d ≤ 21)
def PostS (w : World) (L DP : Nat) (e : Ending) (w' : World) : Prop := ∃ b : Bool, e = .returned (.bool b) ∧ Below w.heap.size w w' ∧ Hid (b = true → L ≤ 700 ∧ DP ≤ 20)
def FitsC (n : Nat) : Prop := ∀ (ts : List AT) (v : Value) (w : World) (g m d : Nat), SizeOf.sizeOf ts < n → Rdn w v ts → (∀ x, w.grownBy x (some g) → Rdn x v ts) → Cb w g (m : Int) → m ≤ 700 → d ≤ 21 →
  Calls Try.prog 38 #[.pointer (some ⟨g, 0, none⟩), v, .int .i64 (d : Int)] w (PostF w g m d (lsK ts).length (dep ts))
set_option maxRecDepth 100000 in
set_option maxHeartbeats 3200000 in
theorem fits_step {n : Nat} (ih : FitsC n) (ts : List AT) (v : Value) (w : World) (g m d : Nat) (hsz : SizeOf.sizeOf ts < n + 1) (hr : Rdn w v ts) (hg : ∀ x, w.grownBy x (some g) → Rdn x v ts) (hc : Cb w g (m : Int)) (hm : m ≤ 700) (hd : d ≤ 21) :
    Calls Try.prog 38 #[.pointer (some ⟨g, 0, none⟩), v, .int .i64 (d : Int)] w (PostF w g m d (lsK ts).length (dep ts)) := by
  have HG : Hid (∀ x, w.grownBy x (some g) → Rdn x v ts) := hg
  obtain ⟨o, cap, e, hN, -⟩ := hr.row
  obtain ⟨N, HN, hN2⟩ : ∃ N : Nat, Hid (ts.length = N) ∧ N ≤ 1048576 := ⟨_, rfl, hN⟩
  rw [HN.out] at e
  subst e
  have HZ : Hid (SizeOf.sizeOf ts < n + 1) := hsz
  obtain ⟨c0, f0⟩ := hc.at
  obtain ⟨w1, HW1⟩ : ∃ w1, Hid (w1 = w.setCell ⟨g, 0, none⟩ (.int .i64 ((m : Int) + (N : Int)))) := ⟨_, rfl⟩
  have h1 : Cb w1 g ((m : Int) + (N : Int)) := by rw [HW1.out]; exact hc.set _
  have G1 : w.grownBy w1 (some g) := by rw [HW1.out]; exact gr_set _ _ _ _
  obtain ⟨L, HL⟩ : ∃ L, Hid ((lsK ts).length = L) := ⟨_, rfl⟩
  obtain ⟨DP, HDP⟩ : ∃ DP, Hid (dep ts = DP) := ⟨_, rfl⟩
  have HK := kk_ls ts
  rw [HL.out, HN.out] at HK
  rw [HL.out, HDP.out]
  clear hr hN hsz hg
  by_cases hbig : m + N ≤ 700 ∧ d ≤ 20
  case neg =>
    have h1c := h1.at
    have HC1 : Hid (Cb w1 g ((m : Int) + (N : Int))) := h1
    have HG1 : Hid (w.grownBy w1 (some g)) := G1
    clear h1 G1
    rw [HW1.out] at h1c
    obtain ⟨e0, e1⟩ := h1c
    by_cases h7 : m + N ≤ 700
    · have h7' : ¬ 700 < (m : Int) + (N : Int) := by omega
      have d2 : 20 < (d : Int) := by omega
      go_enter Try.func38, Try.ntmps38
      go_wp2
      go_ret
      rw [← HW1.out]
      exact ⟨false, _, rfl, HC1.out, HG1.out, fun h => by cases h⟩
    · have h7' : 700 < (m : Int) + (N : Int) := by omega
      go_enter Try.func38, Try.ntmps38
      go_wp2
      go_ret
      rw [← HW1.out]
      exact ⟨false, _, rfl, HC1.out, HG1.out, fun h => by cases h⟩
  have h7' : ¬ 700 < (m : Int) + (N : Int) := by omega
  have d2 : ¬ 20 < (d : Int) := by omega
  have h1c := h1.at
  have HC1 : Hid (Cb w1 g ((m : Int) + (N : Int))) := h1
  have HG1 : Hid (w.grownBy w1 (some g)) := G1
  have hbg := hbig.1
  clear h1 G1
  rw [HW1.out] at h1c
  obtain ⟨e0, e1⟩ := h1c
  go_enter Try.func38, Try.ntmps38
  go_wp2
  rw [← HW1.out]
  clear c0 f0 e0 e1 HW1
  go_loopw [7] (fun vi wr => ∃ (i : Nat), i ≤ N ∧ vi = .int .i64 (i : Int) ∧ w.grownBy wr (some g) ∧ Hid (Cb wr g ((m + N + kk (ts.take i) : Nat) : Int) ∧ m + N + kk (ts.take i) ≤ 700 ∧ dep (ts.take i) + d ≤ 21)) (fun vi _ => N - (intOf vi).toNat)
  case atStart => exact ⟨0, Nat.zero_le _, rfl, HG1.out, by simp only [List.take_zero, kk, Nat.add_zero]; exact HC1.out, by simp only [List.take_zero, kk]; omega, by simp only [List.take_zero, dep]; omega⟩
  case round =>
    obtain ⟨i, hi, rfl, hwr, HI⟩ := hrel
    rename World => wr
    by_cases hlt : i < N
    · have hlt' : (i : Int) < (N : Int) := by omega
      have hia : i < ts.length := by rw [HN.out]; exact hlt
      have hkt := kk_take ts i hia
      have hdt := dep_take ts i hia
      have rd := HG.out wr hwr
      have ka := rdL_at ts i hia rd.kids
      have kg : ∀ x, wr.grownBy x (some g) → Rdn x ts[i].kv ts[i].kids := fun x hx => (rdL_at ts i hia (HG.out x (gr_trans hwr hx)).kids).1
      have hzl := kids_lt hia
      have hz0 := HZ.out
      obtain ⟨x, hx⟩ : ∃ y, y = ts[i] := ⟨_, rfl⟩
      obtain ⟨o', cap', e', _, hc2⟩ := rd.row
      obtain ⟨a, ea, q0, q1, q2⟩ := hc2 i hia
      rw [HN.out] at e'
      obtain ⟨rfl, rfl⟩ : o = o' ∧ cap = cap' := by simpa using e'
      subst ea
      rw [← hx] at hkt hdt ka kg hzl q0 q1 q2
      clear hc2 e' hx rd
      cases x with
      | mk tag val kv ks =>
      simp only [AT.tag, AT.val, AT.kv, AT.kids] at hkt hdt ka kg hzl q0 q1 q2
      obtain ⟨lo, lc, hkv, -⟩ := ka.1.row
      obtain ⟨KL, HKL⟩ : ∃ L, Hid (ks.length = L) := ⟨_, rfl⟩
      rw [HKL.out] at hkv
      subst hkv
      obtain ⟨i1, i2, i3⟩ := HI.out
      have ci := ih ks (.slice lo KL lc) wr g (m + N + kk (ts.take i)) (d + 1) (by omega) ka.1 kg i1 i2 (by omega)
      rw [show ((d + 1 : Nat) : Int) = (d : Int) + 1 by omega] at ci
      clear ka kg hzl hz0 i1 q0 q1
      go_wp2_with fail
      refine ci.mono ?_
      clear ci q2
      rintro _ y ⟨b, m', rfl, j1, j2, J⟩
      have hyw := gr_trans hwr j2
      cases b with
      | false =>
        have HP : Hid (Cb y g m') := j1
        go_wp2
        go_ret
        exact ⟨false, m', rfl, HP.out, hyw, fun h => by cases h⟩
      | true =>
        obtain ⟨k1, k2, k3⟩ := J.out rfl
        have HP : Hid (Cb y g ((m + N + kk (ts.take (i + 1)) : Nat) : Int) ∧ m + N + kk (ts.take (i + 1)) ≤ 700 ∧ dep (ts.take (i + 1)) + d ≤ 21) := by
          refine ⟨?_, by rw [hkt]; omega, by rw [hdt]; omega⟩
          rw [k1] at j1
          rw [hkt, ← Nat.add_assoc]
          exact j1
        clear j1 k1 hkt hdt J
        go_wp2
        exact ⟨⟨i + 1, by omega, by go_num, hyw, HP.out⟩, by simp [intOf]; omega⟩
    · have hlt' : ¬ (i : Int) < (N : Int) := by omega
      obtain ⟨i1, i2, i3⟩ := HI.out
      rw [List.take_of_length_le (by rw [HN.out]; omega)] at i1 i2 i3
      rw [HDP.out] at i3
      have HP : Hid (Cb wr g ((m + N + kk ts : Nat) : Int)) := i1
      clear i1 HI
      go_wp2
      go_ret
      exact ⟨true, _, rfl, HP.out, hwr, fun _ => ⟨by omega, by omega, i3⟩⟩
theorem fits_all : ∀ n, FitsC n
  | 0 => fun ts v w g m d h => absurd h (Nat.not_lt_zero _)
  | n + 1 => fun ts v w g m d hsz hr hg hc hm hd => fits_step (fits_all n) ts v w g m d hsz hr hg hc hm hd
set_option maxRecDepth 100000 in
theorem small_any (ts : List AT) (v : Value) (w : World) (hr : Rdn w v ts) :
    Calls Try.prog 15 #[v] w (PostS w (lsK ts).length (dep ts)) := by
  have B0 := below_one w (.cells #[.int .i64 0] 72)
  have c := fits_all _ ts v (w.alloc (.cells #[.int .i64 0] 72)) w.heap.size 0 1 (Nat.lt_succ_self _) (hr.below B0) (fun x hx => hr.below (B0.grown hx B0.size (by intro k e; injection e with e; omega))) (h1_0 w _) (by omega) (by omega)
  obtain ⟨o, cap, e, hN, -⟩ := hr.row
  generalize ts.length = N at *
  generalize (lsK ts).length = L at *
  generalize dep ts = DP at *
  subst e
  clear hr
  go_enter Try.func15, Try.ntmps15
  go_wp2_with fail
  refine c.mono ?_
  rintro _ y ⟨b, m', rfl, j1, j2, J⟩
  have hb : Below w.heap.size w y := B0.grown j2 B0.size (by intro k e; injection e with e; omega)
  clear j1 j2 c B0
  go_wp2
  go_ret
  exact ⟨b, rfl, hb, fun h => by have := J.out h; omega⟩
end Go.Proofs.Ytgidjfhlooggkaa.Ft
