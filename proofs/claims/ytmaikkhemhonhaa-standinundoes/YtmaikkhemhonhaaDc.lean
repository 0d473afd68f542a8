/- What is added up; a sheet's tally. -/
import Derived.Test.YtmaikkhemhonhaaDb
namespace Go.Proofs.Ytmaikkhemhonhaa.Dc
set_option linter.unusedVariables false
set_option linter.unusedSimpArgs false
open Go.RowKit Go.Maps Lib0 Kb Xp Da Db
attribute [local go_sem] Oper.semAt_some
set_option maxRecDepth 100000 in
set_option maxHeartbeats 1600000 in
theorem totalA_any (w : World) (v : Value) (L : List Ap) (hr : RowA w v L) (hl : L.length ≤ 1000000) (ham : Am L) :
    Calls Try.prog 56 #[v, .func (.func 57) #[] #[]] w fun e w' => e = .returned (.int .i64 (uS L)) ∧ Below w.heap.size w w' := by
  obtain ⟨o, cap, rfl, hcell⟩ := hr
  have HC : Hid (∀ i (h : i < L.length), ∃ a : Addr, o = some a ∧ w.cell? (a.add (i * 3)) = some (.int .i64 L[i].1) ∧ w.cell? (a.add (i * 3 + 1)) = some (.int .i64 L[i].2.1) ∧ w.cell? (a.add (i * 3 + 2)) = some (.int .i64 L[i].2.2)) := hcell
  have HM : Hid (Am L) := ham
  obtain ⟨N, HN⟩ : ∃ N, Hid (L.length = N) := ⟨_, rfl⟩
  rw [HN.out] at hl
  rw [HN.out]
  have HL : Hid (N ≤ 1000000) := hl
  clear hcell ham hl
  have CALL : Hid (∀ (a : Ap) (y : World), Calls Try.prog 57 #[apv a] y fun e w' => e = .returned (.int .i64 a.2.1) ∧ Below y.heap.size y w') := fun a y => amount_any a y
  obtain ⟨R, HR⟩ : ∃ R, Hid (uS L = R) := ⟨_, rfl⟩
  rw [HR.out]
  go_enter Try.func56, Try.ntmps56
  go_wp2_with fail
  go_loopw [10, 5, 7] (fun iv sv _ wr => ∃ (i : Nat) (s : Int), iv = .int .i64 (i : Int) ∧ sv = .int .i64 s ∧ i ≤ N ∧ Hid (s = uS (L.take i)) ∧ Hid (Below w.heap.size w wr)) (fun iv _ _ _ => N + 1 - (intOf iv).toNat)
  case atStart => exact ⟨0, 0, rfl, rfl, Nat.zero_le _, rfl, Below.refl _ _⟩
  case round =>
    obtain ⟨i, s, rfl, rfl, hi, HS, HW⟩ := hrel
    by_cases hlt : i < N
    · have hi2 : i < L.length := by rw [HN.out]; exact hlt
      have HI : Hid (i < L.length) := hi2
      obtain ⟨a, rfl, c0, c1, c2⟩ := HC.out i hi2
      have kk : ∀ q u, w.cell? q = some u → wr.cell? q = some u := fun q u hq => (HW.out.cell (World.block_lt_of_cell? w _ hq)).trans hq
      replace c0 := kk _ _ c0
      replace c1 := kk _ _ c1
      replace c2 := kk _ _ c2
      have q0 : (i : Int) < (N : Int) := by omega
      have q1 : (0 : Int) ≤ (i : Int) := by omega
      have q3 : (i : Int) + 1 ≤ 9223372036854775807 := by have := HL.out; omega
      rw [add_field _ _ _ (by decide)] at c1 c2
      have hst : uS (L.take (i + 1)) = uS (L.take i) + (L[i]'hi2).2.1 := by rw [List.take_succ_eq_append_getElem hi2, uS_append]; simp [uS]
      have hbd := (HM.out.take (i + 1)).sum
      have hbd0 := (HM.out.take i).sum
      rw [List.length_take] at hbd hbd0
      have hx1 := HM.out (L[i]'hi2) (List.getElem_mem hi2)
      rw [← HS.out] at hst hbd0
      rw [hst] at hbd
      have hcall := fun y => CALL.out (L[i]'hi2) y
      obtain ⟨x, HX⟩ : ∃ x : Ap, Hid (∀ h : i < L.length, L[i]'h = x) := ⟨L[i]'hi2, fun _ => rfl⟩
      rw [HX.out hi2] at c0 c1 c2 hst hbd hx1
      simp only [HX.out hi2] at hcall
      obtain ⟨x0, x1, x2⟩ := x
      unfold apv at hcall
      dsimp only at c0 c1 c2 hcall hst hbd hx1
      have q5 : s + x1 ≤ 9223372036854775807 := by have := HL.out; omega
      have q6 : -9223372036854775808 ≤ s + x1 := by have := HL.out; omega
      have HST : Hid (s + x1 = uS (L.take (i + 1))) := hst.symm
      have HCA : Hid (∀ y : World, Calls Try.prog 57 #[.agg #[.int .i64 x0, .int .i64 x1, .int .i64 x2]] y fun e w' => e = .returned (.int .i64 x1) ∧ Below y.heap.size y w') := hcall
      clear kk hi hi2 hst hbd hbd0 hx1 hcall
      go_wp2_with fail
      refine (HCA.out _).mono ?_
      rintro e w' ⟨rfl, hw'⟩
      have HW2 : Hid (Below w.heap.size w w') := keepB (keepB HW.out (below_one _ _)) hw'
      clear hw'
      go_wp2_with fail
      refine ⟨⟨i + 1, s + x1, by simp, by rfl, by omega, HST, HW2⟩, ?_⟩
      simp only [intOf]; omega
    · obtain rfl : i = N := by omega
      have HE : Hid (s = R) := by
        show s = R
        rw [HS.out, ← HR.out, List.take_of_length_le (by rw [HN.out]; exact Nat.le_refl _)]
      clear hi
      go_wp2_with fail
      go_ret
      exact ⟨by rw [HE.out]; rfl, HW.out⟩
/-- those from a tick on -/
def la (L : List Ap) (t : Int) : List Ap := L.filter fun a => decide (t ≤ a.2.2)
theorem rowa_drop {w : World} {base : Nat} {g cap N : Nat} {L : List Ap} (h : w.ownsRow base tA 3 (.slice (some ⟨g, 0, none⟩) N cap) L.length (apc L)) (p : Nat) : RowA w (.slice (some ⟨g, p * 3, none⟩) (L.length - p) (cap - p)) (L.drop p) := by
  obtain ⟨o, c, e, hc⟩ := rowa_own h
  injection e with e1 e2 e3
  subst e1
  refine ⟨_, _, by rw [List.length_drop], fun i hi => ?_⟩
  rw [List.length_drop] at hi
  obtain ⟨a, ea, c0, c1, c2⟩ := hc (p + i) (by omega)
  injection ea with ea
  subst ea
  rw [add_zero] at c0 c1 c2
  have k0 : ∀ j, (⟨g, p * 3, none⟩ : Addr).add j = ⟨g, p * 3 + j, none⟩ := fun j => by unfold Addr.add; split <;> simp_all
  refine ⟨_, rfl, ?_, ?_, ?_⟩ <;> rw [k0, List.getElem_drop]
  · rw [show p * 3 + i * 3 = (p + i) * 3 by omega]; exact c0
  · rw [show p * 3 + (i * 3 + 1) = (p + i) * 3 + 1 by omega]; exact c1
  · rw [show p * 3 + (i * 3 + 2) = (p + i) * 3 + 2 by omega]; exact c2
theorem infoT : (Try.prog.info? 101).map (·.size) = some 2 := by kernel_rfl
set_option maxRecDepth 100000 in
set_option maxHeartbeats 1600000 in
theorem usedS_any {w : World} {base g : Nat} {v : Value} {L : List Ap} (h : ShM w base g v L) (t : Int) (hu : Up L) (hl : L.length ≤ 1000000) (ham : Am L) : Calls Try.prog 46 #[.pointer (some ⟨g, 0, none⟩), .int .i64 t] w fun e w' => e = .returned (tlv ((la L t).length : Int) (uS (la L t))) ∧ Below w.heap.size w w' := by
  have HF : Hid (∀ y, Below w.heap.size w y → Calls Try.prog 55 #[.pointer (some ⟨g, 0, none⟩), .int .i64 t] y fun e w' => (∃ p : Nat, e = .returned (.int .i64 (p : Int)) ∧ Fr L t p) ∧ Below y.heap.size y w') := fun y hy => from_any (h.below hy) t hu hl
  have HH : Hid (ShM w base g v L) := h
  obtain ⟨o, cap, rfl, hcap, hcm, -⟩ := own_form h.row
  have HM : Hid (Am L ∧ L.length ≤ 1000000) := ⟨ham, hl⟩
  obtain ⟨N, HN⟩ : ∃ N, Hid (L.length = N) := ⟨_, rfl⟩
  obtain ⟨y, hy⟩ : ∃ y, w.alloc (.cells #[.int .i64 0, .int .i64 0] 101) = y := ⟨_, rfl⟩
  have HY : Hid (Below w.heap.size w y) := hy ▸ below_one _ _
  have HX : Hid (y.heap[w.heap.size]? = some (.cells #[.int .i64 0, .int .i64 0] 101)) := hy ▸ h1_0 _ _
  have HCP : Hid (L.length ≤ cap ∧ cap ≤ maxLen) := ⟨hcap, hcm⟩
  clear h hu hl ham hcap hcm
  rw [HN.out] at HH
  go_enter Try.func46, Try.ntmps46
  go_wp2_with fail
  try rw [hy]
  clear hy
  refine (HF.out y HY.out).mono ?_
  rintro e z ⟨⟨p, rfl, hp⟩, hz⟩
  have HP : Hid (Fr L t p) := hp
  have HZ : Hid (Below y.heap.size y z) := hz
  have HX3 : Hid (z.heap[w.heap.size]? = some (.cells #[.int .i64 0, .int .i64 0] 101)) := kept hz HX.out
  have hM := HH.out.below (keepB HY.out hz)
  obtain ⟨c0, c1⟩ := hM.cells
  have d0 : z.drew.cell? ⟨g, 0, none⟩ = some (.slice o N cap) := c0
  have d1 : z.drew.cell? ⟨g, 1, none⟩ = some (.int .i64 (uS L)) := c1
  have x0 : z.cell? ⟨w.heap.size, 0, none⟩ = some (.int .i64 0) := by have := HX3.out; simp [World.cell?, this]
  have x1 : z.cell? ⟨w.heap.size, 1, none⟩ = some (.int .i64 0) := by have := HX3.out; simp [World.cell?, this]
  have f0 : ∀ k, z.frozen? ⟨w.heap.size, k, none⟩ = false := fun k => by have := HX3.out; simp [World.frozen?, this]
  clear hp hz hM
  by_cases hp0 : p = 0
  · subst hp0
    have HE : Hid (la L t = L) := (HP.out.drop : la L t = L.drop 0)
    obtain ⟨U, HU2⟩ : ∃ U, Hid (uS L = U) := ⟨_, rfl⟩
    rw [HU2.out] at d1 c1
    have HR : Hid ((((z.setCell ⟨w.heap.size, 0, none⟩ (.int .i64 (N : Int))).setCell ⟨w.heap.size, 1, none⟩ (.int .i64 U)).heap[w.heap.size]? = some (.cells #[.int .i64 (N : Int), .int .i64 U] 101)) ∧ Below w.heap.size w ((z.setCell ⟨w.heap.size, 0, none⟩ (.int .i64 (N : Int))).setCell ⟨w.heap.size, 1, none⟩ (.int .i64 U))) :=
      ⟨by rw [setCell_heap (setCell_heap HX3.out 0 _) 1 _]; rfl, ((keepB HY.out HZ.out).setCell (Nat.le_refl _) _).setCell (Nat.le_refl _) _⟩
    go_wp2_with fail
    go_region_with (fail)
    all_goals (go_wp2_with fail)
    all_goals exact bodyPost_ret (v := .agg #[.int .i64 (N : Int), .int .i64 U]) (results_cell_row (fn := Try.f46) (p := 4) rfl _ _ w.heap.size 101 _ _ _ rfl HR.out.1 Try.underlying101 rfl infoT) rfl ⟨by rw [HE.out, HN.out, HU2.out]; rfl, HR.out.2.drew⟩
  · have HP1 : Hid (0 < p ∧ p ≤ N) := ⟨by omega, by have := HP.out.le; rw [HN.out] at this; exact this⟩
    have HE : Hid (la L t = L.drop p) := HP.out.drop
    have hN0 : o ≠ none := by
      intro e
      subst e
      have h1 := HP1.out
      rcases HH.out.row.2 with ⟨h2, h3⟩ | ⟨g2, c2, cur, e2, -⟩
      · rw [HN.out] at h3; omega
      · cases e2
    obtain ⟨gr, rfl⟩ : ∃ gr, o = some ⟨gr, 0, none⟩ := by
      rcases HH.out.row.2 with ⟨h2, h3⟩ | ⟨g2, c2, cur, e2, -⟩
      · injection h2 with h2; exact absurd h2 hN0
      · injection e2 with e2; exact ⟨g2, e2⟩
    have q1 : (0 : Int) ≤ (p : Int) := by omega
    have q2 : (p : Int) ≤ (N : Int) := by have := HP1.out; omega
    have q3 : (N : Int) ≤ (cap : Int) := by have := HCP.out.1; rw [HN.out] at this; omega
    have q4 : ¬ (p : Int) = 0 := by omega
    have HT : Hid (∀ x, Below z.heap.size z x → Calls Try.prog 56 #[.slice (some ⟨gr, p * 3, none⟩) (N - p) (cap - p), .func (.func 57) #[] #[]] x fun e w' => e = .returned (.int .i64 (uS (L.drop p))) ∧ Below x.heap.size x w') := fun x hx => by
      have hr := rowa_drop ((HH.out.below (keepB (keepB HY.out HZ.out) hx)).row) p
      rw [HN.out] at hr
      exact totalA_any x _ _ hr (by rw [List.length_drop]; have := HM.out.2; omega) (HM.out.1.drop p)
    obtain ⟨U, HU2⟩ : ∃ U, Hid (uS (L.drop p) = U) := ⟨_, rfl⟩
    rw [HU2.out] at HT
    have HT0 : Hid (N = p → ∀ x, Below z.heap.size z x → Calls Try.prog 56 #[.slice (some ⟨gr, 0, none⟩) (N - p) 0, .func (.func 57) #[] #[]] x fun e w' => e = .returned (.int .i64 U) ∧ Below x.heap.size x w') := fun hNp x hx => by
      have h := totalA_any x (.slice (some ⟨gr, 0, none⟩) (N - p) 0) (L.drop p) ⟨_, _, by rw [List.length_drop, HN.out], fun i hi => by rw [List.length_drop, HN.out] at hi; omega⟩ (by rw [List.length_drop]; have := HM.out.2; omega) (HM.out.1.drop p)
      rw [HU2.out] at h
      exact h
    have HFIN : Hid (∀ x, Below z.heap.size z x → (x.cell? ⟨w.heap.size, 0, none⟩ = some (.int .i64 0) ∧ x.cell? ⟨w.heap.size, 1, none⟩ = some (.int .i64 0) ∧ ∀ k, x.frozen? ⟨w.heap.size, k, none⟩ = false) ∧ (((x.setCell ⟨w.heap.size, 0, none⟩ (.int .i64 ((N - p : Nat) : Int))).setCell ⟨w.heap.size, 1, none⟩ (.int .i64 U)).heap[w.heap.size]? = some (.cells #[.int .i64 ((N - p : Nat) : Int), .int .i64 U] 101)) ∧ Below w.heap.size w ((x.setCell ⟨w.heap.size, 0, none⟩ (.int .i64 ((N - p : Nat) : Int))).setCell ⟨w.heap.size, 1, none⟩ (.int .i64 U))) := fun x hx => by
      have h1 := kept hx HX3.out
      refine ⟨⟨by simp [World.cell?, h1], by simp [World.cell?, h1], fun k => by simp [World.frozen?, h1]⟩, by rw [setCell_heap (setCell_heap h1 0 _) 1 _]; rfl, ((keepB (keepB HY.out HZ.out) hx).setCell (Nat.le_refl _) _).setCell (Nat.le_refl _) _⟩
    have HLN : Hid ((L.drop p).length = N - p) := by show (L.drop p).length = N - p; rw [List.length_drop, HN.out]
    clear hN0 hp0 x0 x1 f0
    by_cases hcp : p = cap
    · subst hcp
      have HNp : Hid (N = p) := by show N = p; have := HP1.out; omega
      go_wp2_with fail
      refine (HT0.out HNp.out _ (Below.refl _ _)).mono ?_
      rintro e x ⟨rfl, hx⟩
      obtain ⟨⟨x0, x1, f0⟩, x2, x3⟩ := HFIN.out x hx
      have HX4 : Hid _ := x2
      have HX5 : Hid _ := x3
      clear x2 x3
      go_wp2_with fail
      exact bodyPost_ret (v := .agg #[.int .i64 ((N - p : Nat) : Int), .int .i64 U]) (results_cell_row (fn := Try.f46) (p := 4) rfl _ _ w.heap.size 101 _ _ _ rfl HX4.out Try.underlying101 rfl infoT) rfl ⟨by rw [HE.out, HLN.out, HU2.out]; rfl, HX5.out⟩
    · have q5 : (p : Int) < (cap : Int) := by omega
      clear hcp
      go_wp2_with fail
      refine (HT.out _ (Below.refl _ _)).mono ?_
      rintro e x ⟨rfl, hx⟩
      obtain ⟨⟨x0, x1, f0⟩, x2, x3⟩ := HFIN.out x hx
      have HX4 : Hid _ := x2
      have HX5 : Hid _ := x3
      clear x2 x3
      go_wp2_with fail
      exact bodyPost_ret (v := .agg #[.int .i64 ((N - p : Nat) : Int), .int .i64 U]) (results_cell_row (fn := Try.f46) (p := 4) rfl _ _ w.heap.size 101 _ _ _ rfl HX4.out Try.underlying101 rfl infoT) rfl ⟨by rw [HE.out, HLN.out, HU2.out]; rfl, HX5.out⟩
end Go.Proofs.Ytmaikkhemhonhaa.Dc
