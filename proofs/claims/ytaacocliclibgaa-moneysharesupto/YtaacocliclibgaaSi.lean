/- insertionSort: places put in order one by one. -/
import Derived.Test.YtaacocliclibgaaSc
namespace Go.Proofs.Ytaacocliclibgaa.Si
set_option linter.unusedVariables false
open Go.RowKit Sl Kb So Sc
structure Ins (key : Nat → Int) (f c : Nat → Nat) (a i j : Nat) : Prop where
  mix : Mix f c a (i + 1)
  at_j : c j = f i
  srt : ∀ p q, a ≤ p → p < q → q ≤ i → q ≠ j → lt key (c p) (c q)
  less : ∀ p, a ≤ p → p ≤ i → p ≠ j → c p < f i
theorem ins_start {key : Nat → Int} {f c : Nat → Nat} {a i : Nat} (hai : a ≤ i) (hinc : ∀ p, a ≤ p → p < i → f p < f i) (hm : Mix f c a i) (hs : Srt key c a i) : Ins key f c a i i :=
  ⟨hm.wide (Nat.le_refl _) (by omega), hm.out i (by omega), fun p q h1 h2 h3 h4 => hs p q h1 h2 (by omega), fun p h1 h2 h3 => by
    obtain ⟨j, j1, j2, e⟩ := hm.fwd p h1 (by omega)
    rw [e]; exact hinc j j1 j2⟩
theorem ins_step {key : Nat → Int} {f c : Nat → Nat} {a i j : Nat} (h : Ins key f c a i (j + 1)) (haj : a ≤ j) (hji : j + 1 ≤ i) (hk : key (c j) < key (c (j + 1))) : Ins key f (swp c (j + 1) j) a i j := by
  have e1 : swp c (j + 1) j j = c (j + 1) := by simp [swp]
  have e2 : swp c (j + 1) j (j + 1) = c j := by simp [swp]
  have e3 : ∀ k, k ≠ j → k ≠ j + 1 → swp c (j + 1) j k = c k := fun k h1 h2 => by simp [swp, h1, h2]
  refine ⟨h.mix.trans (swp_mix c (j + 1) j a (i + 1) (by omega) (by omega) haj (by omega)), by rw [e1]; exact h.at_j, fun p q h1 h2 h3 h4 => ?_, fun p h1 h2 h3 => ?_⟩
  · by_cases hq : q = j + 1
    · subst hq
      rw [e2]
      by_cases hp : p = j
      · subst hp; rw [e1]; exact lt_of_more hk
      · rw [e3 p hp (by omega)]; exact h.srt p j h1 (by omega) (by omega) (by omega)
    · rw [e3 q h4 hq]
      by_cases hp : p = j
      · subst hp; rw [e1]; exact h.srt (p + 1) q (by omega) (by omega) h3 hq
      · by_cases hp2 : p = j + 1
        · subst hp2; rw [e2]; exact h.srt j q haj (by omega) h3 hq
        · rw [e3 p hp hp2]; exact h.srt p q h1 h2 h3 hq
  · by_cases hp2 : p = j + 1
    · subst hp2; rw [e2]; exact h.less j haj (by omega) (by omega)
    · rw [e3 p h3 hp2]; exact h.less p h1 h2 hp2
theorem ins_first {key : Nat → Int} {f c : Nat → Nat} {a i : Nat} (h : Ins key f c a i a) : Srt key c a (i + 1) := fun p q h1 h2 h3 => h.srt p q h1 h2 (by omega) (by omega)
theorem ins_stop {key : Nat → Int} {f c : Nat → Nat} {a i j : Nat} (h : Ins key f c a i (j + 1)) (haj : a ≤ j) (hji : j + 1 ≤ i) (hk : ¬ key (c j) < key (c (j + 1))) : Srt key c a (i + 1) := fun p q h1 h2 h3 => by
  by_cases hq : q = j + 1
  · subst hq
    have hl : lt key (c j) (c (j + 1)) := lt_of_not (by rw [h.at_j]; exact h.less j haj (by omega) (by omega)) hk
    by_cases hp : p = j
    · subst hp; exact hl
    · exact lt_trans (h.srt p j h1 (by omega) (by omega) (by omega)) hl
  · exact h.srt p q h1 h2 (by omega) hq
theorem mix_lt {f c : Nat → Nat} {a b n : Nat} (h : Mix f c a b) (hb : b ≤ n) (hf : ∀ k, k < n → f k < n) : ∀ k, k < n → c k < n := fun k hk => by
  by_cases hh : a ≤ k ∧ k < b
  · obtain ⟨j, j1, j2, e⟩ := h.fwd k hh.1 hh.2
    rw [e]; exact hf j (by omega)
  · rw [h.out k (by omega)]; exact hf k hk
set_option maxRecDepth 100000 in
set_option maxHeartbeats 1600000 in
theorem insertion_any {w : World} {g n nb rb : Nat} {key : Nat → Int} (E : Env w g n nb rb key) (a b : Nat) (ha2 : a ≤ n) (hb : b ≤ n) (f : Nat → Nat) (hR : Row w g n f) (hf : ∀ k, k < n → f k < n) (hinc : ∀ p q, a ≤ p → p < q → q < b → f p < f q) :
    Calls Try.prog 43 #[.slice (some ⟨g, 0, none⟩) n n, .int .i64 (a : Int), .int .i64 (b : Int), (.func (.func 26) #[] #[.pointer (some ⟨nb, 0, none⟩)])] w fun e w' => e = .returned (.tuple #[]) ∧ Only g w w' ∧ ∃ c, Row w' g n c ∧ Mix f c a b ∧ Srt key c a b := by
  have HE : Hid (Env w g n nb rb key) := E
  have HR : Hid (Row w g n f) := hR
  have HF : Hid (∀ k, k < n → f k < n) := hf
  have HC : Hid (∀ p q, a ≤ p → p < q → q < b → f p < f q) := hinc
  have HB : Hid (b ≤ n) := hb
  have hn := E.small
  have b1 : (b : Int) ≤ (n : Int) := by omega
  have n1 : (n : Int) ≤ 1048576 := by omega
  by_cases ha : a + 1 < b
  · have a0 : (a : Int) + 1 ≤ 1048576 := by omega
    clear hR hf hinc E hb
    go_enter Try.func43, Try.ntmps43
    go_wp2_with fail
    go_loopw [8] (fun vi wr => ∃ i : Nat, vi = .int .i64 (i : Int) ∧ a < i ∧ i ≤ b ∧ Hid (Only g w wr ∧ ∃ c, Row wr g n c ∧ Mix f c a i ∧ Srt key c a i)) (fun vi _ => b + 1 - (intOf vi).toNat)
    case atStart => exact ⟨a + 1, by go_num, by omega, by omega, Only.refl _ _, f, HR.out, Mix.refl _ _ _, fun i j h1 h2 h3 => by omega⟩
    case round =>
      obtain ⟨i, rfl, hai, hib, HI⟩ := hrel
      by_cases hlt : i < b
      · have q : (i : Int) < (b : Int) := by omega
        have hi0 : (i : Int) ≤ 1048576 := by omega
        go_wp2_with fail
        rename World => wr0
        go_loopw [9] (fun vj wr => ∃ j : Nat, vj = .int .i64 (j : Int) ∧ a ≤ j ∧ j ≤ i ∧ Hid (Only g w wr ∧ ∃ c, Row wr g n c ∧ Ins key f c a i j)) (fun vj _ => (intOf vj).toNat)
        case atStart =>
          obtain ⟨ho, c, h1, h2, h3⟩ := HI.out
          exact ⟨i, rfl, by omega, Nat.le_refl _, ho, c, h1, ins_start (by omega) (fun p hp hpi => HC.out p i hp hpi hlt) h2 h3⟩
        case round =>
          obtain ⟨j, rfl, haj, hji, HJ⟩ := hrel
          obtain ⟨ho, c, hc, hI⟩ := HJ.out
          by_cases hja : a < j
          · obtain ⟨jp, rfl⟩ : ∃ jp, j = jp + 1 := ⟨j - 1, by omega⟩
            have hbb := HB.out
            have hcn := mix_lt hI.mix (by omega) HF.out
            have cj := hc.cell (i := jp + 1) (by omega)
            have cp := hc.cell (i := jp) (by omega)
            have fj := hc.frozen (jp + 1)
            have fp := hc.frozen jp
            obtain ⟨j1, hj1⟩ : ∃ j1, j1 = jp + 1 := ⟨_, rfl⟩
            rw [← hj1] at cj fj
            have ej : (((jp + 1 : Nat) : Int)) = (j1 : Int) := by omega
            have em : (j1 : Int) - 1 = (jp : Int) := by omega
            have wjp : IntKind.i64.wrap (jp : Int) = (jp : Int) := by simp [IntKind.wrap, IntKind.signed, IntKind.bits]; omega
            have hc1 : ∀ q, Calls Try.prog 26 #[.int .i64 (c (jp + 1) : Int), .int .i64 (c jp : Int), .pointer (some ⟨nb, 0, none⟩)] (wr.drewN q) fun e w' => e = .returned (.int .i64 (cf key (c (jp + 1)) (c jp))) ∧ ∃ m, w' = (wr.drewN q).drewN m := fun q => cmp_any (HE.out.keep (only_dr ho q)) _ _ (hcn _ (by omega)) (hcn _ (by omega))
            have hneg := cf_neg key (c (jp + 1)) (c jp)
            have HO : Hid (Only g w wr ∧ Row wr g n c ∧ Ins key f c a i (jp + 1) ∧ j1 = jp + 1 ∧ a ≤ jp ∧ jp + 1 ≤ i ∧ i < b) := ⟨ho, hc, hI, hj1, by omega, by omega, hlt⟩
            have za : (a : Int) < (j1 : Int) := by omega
            have z1 : (j1 : Int) < (n : Int) := by omega
            have z2 : (jp : Int) < (n : Int) := by omega
            have HV : Hid ((c (jp + 1) : Int) = (c (jp + 1) : Int) ∧ (c jp : Int) = (c jp : Int)) := ⟨rfl, rfl⟩
            rw [← hj1] at hc1 hneg
            generalize hv1 : (c j1 : Int) = v1 at *
            generalize hv2 : (c jp : Int) = v2 at *
            have HVV : Hid ((c j1 : Int) = v1 ∧ (c jp : Int) = v2) := ⟨hv1, hv2⟩
            generalize cf key (c j1) (c jp) = r at *
            rw [ej]
            by_cases hr : r < 0
            · have HK : Hid (key (c jp) < key (c (jp + 1))) := by rw [← hj1]; exact hneg.1 hr
              clear hv1 hv2 hneg hj1 ej ho hc hI HJ HI hcn hja haj hji HV hbb
              go_wp2_with fail
              go_quiet ((go_at_call 26; exact Calls.quiet_of (hc1 _)))
              go_wp2_with fail
              have cj2 : (wr.drewN nq).cell? ⟨g, j1, none⟩ = some (.int .i64 v1) := cj
              have cp2 : (wr.drewN nq).cell? ⟨g, jp, none⟩ = some (.int .i64 v2) := cp
              have fj2 : (wr.drewN nq).frozen? ⟨g, j1, none⟩ = false := fj
              have fp2 : (wr.drewN nq).frozen? ⟨g, jp, none⟩ = false := fp
              obtain ⟨x, hx⟩ : ∃ x, x = wr.drewN nq := ⟨_, rfl⟩
              rw [← hx] at cj2 cp2 fj2 fp2 ⊢
              have HX : Hid (x = wr.drewN nq) := hx
              clear hx cj cp fj fp hc1
              go_region
              go_wp2_with fail
              obtain ⟨ho, hc, hI, hj1, g1, g2, g3⟩ := HO.out
              refine ⟨⟨jp, by go_num, by omega, by omega, ?_⟩, by simp only [intOf]; omega⟩
              have hs := row_swap (hc.dr nq) (x := jp + 1) (y := jp) (by omega) (by omega)
              rw [← hj1, HVV.out.1, HVV.out.2] at hs
              rw [HX.out]
              exact ⟨only_set (only_set (only_dr (only_dr ho nq) 1) _ _) _ _, _, hs, by rw [hj1]; exact ins_step hI (by omega) (by omega) HK.out⟩
            · have HK : Hid (¬ key (c jp) < key (c (jp + 1))) := by rw [← hj1]; exact fun h => hr (hneg.2 h)
              clear hv1 hv2 hneg hj1 ej ho hc hI HJ HI hcn HV hja haj hji hbb hai hib hlt
              go_wp2_with fail
              go_quiet ((go_at_call 26; exact Calls.quiet_of (hc1 _)))
              clear cj cp fj fp hc1 em wjp za z1 z2 n1 b1 a0 hn
              go_wp2_with fail
              obtain ⟨ho, hc, hI, hj1, g1, g2, g3⟩ := HO.out
              exact ⟨⟨i + 1, by go_num, by omega, by omega, only_dr ho nq, c, hc.dr nq, hI.mix, ins_stop hI (by omega) (by omega) (by have := HK.out; omega)⟩, by simp only [intOf]; omega⟩
          · obtain rfl : j = a := by omega
            have hjn : ¬ (j : Int) < (j : Int) := by omega
            have hjn2 : ¬ j < j := by omega
            have HO : Hid (Only g w wr ∧ Row wr g n c ∧ Ins key f c j i j) := ⟨ho, hc, hI⟩
            clear ho hc hI HJ HI
            go_wp2_with fail
            go_region
            go_wp2_with fail
            obtain ⟨ho, hc, hI⟩ := HO.out
            exact ⟨⟨i + 1, by go_num, by omega, by omega, only_dr ho 1, c, hc.dr 1, hI.mix, ins_first hI⟩, by simp only [intOf]; omega⟩
      · obtain rfl : i = b := by omega
        go_wp2_with fail
        go_end0
        exact ⟨rfl, HI.out⟩
  · have a0 : (a : Int) + 1 ≤ 1048577 := by omega
    obtain ⟨A1, hA1⟩ : ∃ A1 : Int, (a : Int) + 1 = A1 := ⟨_, rfl⟩
    have hnl : ¬ A1 < (b : Int) := by omega
    rw [hA1] at a0
    have a9 : 0 ≤ A1 := by omega
    have HNL : Hid (¬ a + 1 < b) := ha
    clear hR hf hinc E hb ha ha2 hn HC HF HE HB b1 n1
    go_enter Try.func43, Try.ntmps43
    go_wp2_with fail
    refine wp_loop_rounds 1 ?_
    rw [rounds_succ]
    go_wp2_with fail
    go_end0
    exact ⟨rfl, Only.refl _ _, f, HR.out, Mix.refl _ _ _, fun i j h1 h2 h3 => by have := HNL.out; omega⟩
end Go.Proofs.Ytaacocliclibgaa.Si
