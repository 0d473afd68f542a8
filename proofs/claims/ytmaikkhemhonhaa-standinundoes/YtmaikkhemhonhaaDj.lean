/- up, down. -/
import Derived.Test.YtmaikkhemhonhaaDx
namespace Go.Proofs.Ytmaikkhemhonhaa.Dj
set_option linter.unusedVariables false
set_option linter.unusedSimpArgs false
open Go.RowKit Go.Maps Lib0 Kb Xp Da Db Dc Dd De Dh Di Dx
attribute [local go_sem] Oper.semAt_some
def hv (b : Nat) : Value := .iface 87 (.pointer (some ⟨b, 4, none⟩))
structure PU (w : World) (base b : Nat) (bc : Array Value) (av : Value) (A A' : List Rc) (n : Nat) (y : World) : Prop where
  ph : PH w base b bc av A' y
  perm : A'.Perm A
  rest : ∀ m, n ≤ m → A'[m]? = A[m]?
theorem PU.len {w : World} {base b : Nat} {bc : Array Value} {av : Value} {A A' : List Rc} {n : Nat} {y : World} (h : PU w base b bc av A A' n y) : A'.length = A.length := h.perm.length_eq
theorem PU.self {w : World} {base b : Nat} {bc : Array Value} {av : Value} {A : List Rc} {n : Nat} (h : HpM w base b bc av A) : PU w base b bc av A A n w := ⟨PH.self h, List.Perm.refl _, fun _ _ => rfl⟩
theorem PU.behind {w : World} {base b : Nat} {bc : Array Value} {av : Value} {A A' : List Rc} {n : Nat} {y z : World} (h : PU w base b bc av A A' n y) (k : Below y.heap.size y z) : PU w base b bc av A A' n z := ⟨h.ph.behind k, h.perm, h.rest⟩
theorem PU.next {w : World} {base b : Nat} {bc : Array Value} {av : Value} {A A' A'' : List Rc} {n : Nat} {y z : World} (h : PU w base b bc av A A' n y) (k : PU y base b bc av A' A'' n z) : PU w base b bc av A A'' n z := ⟨h.ph.next k.ph, k.perm.trans h.perm, fun m hm => (k.rest m hm).trans (h.rest m hm)⟩
theorem PU.swap {w : World} {base b : Nat} {bc : Array Value} {av : Value} {A : List Rc} {n i j : Nat} {y : World} (hi : i < A.length) (hj : j < A.length) (h : PH w base b bc av (swp A i j hi hj) y) (h1 : i < n) (h2 : j < n) : PU w base b bc av A (swp A i j hi hj) n y := ⟨h, swp_perm _ _ _ _ _, fun m hm => by
  unfold swp
  rw [List.getElem?_set_ne (by omega), List.getElem?_set_ne (by omega)]⟩
set_option maxRecDepth 100000 in
set_option maxHeartbeats 1600000 in
theorem up_any {w : World} {base b : Nat} {bc : Array Value} {av : Value} {A : List Rc} (h : HpM w base b bc av A) (j0 n : Nat) (hj0 : j0 < n) (hn : n ≤ A.length) : Calls Try.prog 52 #[hv b, .int .i64 (j0 : Int)] w fun e w' => e = .returned (.tuple #[]) ∧ ∃ A', PU w base b bc av A A' n w' ∧ (UpOk (kN A) n j0 → Hp (kN A') n) := by
  have HN : Hid (n ≤ A.length ∧ n ≤ 1000000) := ⟨hn, Nat.le_trans hn h.len⟩
  obtain ⟨g, cap, rfl, -⟩ := h.form (by omega)
  obtain ⟨N, HNN⟩ : ∃ N, Hid (A.length = N) := ⟨_, rfl⟩
  rw [HNN.out] at h
  rw [HNN.out]
  have HH : Hid (HpM w base b bc (.slice (some ⟨g, 0, none⟩) N cap) A) := h
  have HJ : Hid (j0 < n) := hj0
  unfold hv
  clear h hn hj0
  go_enter Try.func52, Try.ntmps52
  go_wp2_with fail
  go_loopw [1, 4] (fun jv _ wr => ∃ j : Nat, jv = .int .i64 (j : Int) ∧ Hid (j < n) ∧ Hid (∃ A', PU w base b bc (.slice (some ⟨g, 0, none⟩) N cap) A A' n wr ∧ (UpOk (kN A) n j0 → UpOk (kN A') n j))) (fun jv _ _ => (intOf jv).toNat)
  case atStart => exact ⟨j0, rfl, HJ.out, A, PU.self HH.out, id⟩
  case round =>
    obtain ⟨j, rfl, HJN, HA⟩ := hrel
    obtain ⟨A1, P1, O1⟩ := HA.out
    have HP1 : Hid (PU w base b bc (.slice (some ⟨g, 0, none⟩) N cap) A A1 n wr) := P1
    have HO1 : Hid (UpOk (kN A) n j0 → UpOk (kN A1) n j) := O1
    obtain ⟨c4, -⟩ := P1.ph.1.cell4
    have hl1 : n ≤ A1.length := by rw [P1.len]; exact HN.out.1
    clear P1 O1 HA
    by_cases hz : j = 0
    · subst hz
      go_wp2_with fail
      go_end0
      exact ⟨rfl, A1, HP1.out, fun h => up_end (HO1.out h) (fun e => absurd e (by omega))⟩
    · obtain ⟨p, hp⟩ : ∃ p : Nat, (j - 1) / 2 = p := ⟨_, rfl⟩
      have HPJ : Hid (p < j ∧ (j - 1) / 2 = p ∧ 1 ≤ j) := ⟨by omega, hp, by omega⟩
      have q0 : (0 : Int) < (j : Int) := by omega
      have q1 : (j : Int) ≤ 1000000 := by have := HJN.out; have := HN.out; omega
      have eP : ((j : Int) - 1) / 2 = (p : Int) := by omega
      have q2 : ((p : Int) == (j : Int)) = false := by simp; omega
      have hj1 : j < A1.length := by have := HJN.out; omega
      have hp1 : p < A1.length := by omega
      have HL : Hid (Calls Try.prog 81 #[.slice (some ⟨g, 0, none⟩) N cap, .int .i64 (j : Int), .int .i64 (p : Int)] wr fun e w' => e = .returned (.bool (decide (kN A1 j < kN A1 p))) ∧ Below wr.heap.size wr w') := less_any HP1.out.ph.1 j p hj1 hp1
      have HS : Hid (∀ y, Below wr.heap.size wr y → Calls Try.prog 82 #[.slice (some ⟨g, 0, none⟩) N cap, .int .i64 (p : Int), .int .i64 (j : Int)] y fun e w' => e = .returned (.tuple #[]) ∧ PH y base b bc (.slice (some ⟨g, 0, none⟩) N cap) (swp A1 p j hp1 hj1) w') := fun y hy => swap_any (HP1.out.ph.1.below hy) p j hp1 hj1 (by omega)
      have ml := m_less wr b _ _ _ c4
      have HLN : Hid (n ≤ A1.length) := hl1
      clear hz hp hl1
      by_cases hlt : kN A1 j < kN A1 p
      · rw [decide_eq_true hlt] at HL
        have HLT : Hid (kN A1 j < kN A1 p) := hlt
        clear hlt
        go_wp2_with fail
        refine HL.out.mono ?_
        rintro e y ⟨rfl, hy⟩
        have HY : Hid (Below wr.heap.size wr y) := hy
        have ms := m_swap y b _ _ _ ((HP1.out.ph.1.below hy).cell4.1)
        clear hy ml
        go_wp2_with fail
        refine (HS.out y HY.out).mono ?_
        rintro e z ⟨rfl, hz⟩
        have HZ : Hid (PU w base b bc (.slice (some ⟨g, 0, none⟩) N cap) A (swp A1 p j hp1 hj1) n z) := (HP1.out.behind HY.out).next (PU.swap hp1 hj1 hz (by have := HPJ.out; have := HJN.out; omega) HJN.out)
        clear hz ms
        go_wp2_with fail
        refine ⟨⟨p, rfl, by have := HPJ.out; have := HJN.out; show p < n; omega, swp A1 p j hp1 hj1, HZ.out, fun h => ?_⟩, ?_⟩
        · have := up_step (HO1.out h) HPJ.out.2.2 HJN.out HPJ.out.2.1.symm HLT.out
          exact this.congr (by have := HPJ.out; have := HJN.out; omega) (fun m hm => kN_sw hp1 hj1 m (by have := HLN.out; omega))
        · have := HPJ.out; simp only [intOf]; omega
      · rw [decide_eq_false hlt] at HL
        have HLT : Hid (¬ kN A1 j < kN A1 p) := hlt
        clear hlt
        go_wp2_with fail
        refine HL.out.mono ?_
        rintro e y ⟨rfl, hy⟩
        have HY : Hid (Below wr.heap.size wr y) := hy
        clear hy ml
        go_wp2_with fail
        go_end0
        refine ⟨rfl, A1, HP1.out.behind HY.out, fun h => up_end (HO1.out h) (fun _ => ?_)⟩
        rw [HPJ.out.2.1]
        have := HLT.out
        omega
end Go.Proofs.Ytmaikkhemhonhaa.Dj
