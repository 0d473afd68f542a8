/- greatestFirst: places by what stands there. -/
import Derived.Test.YtaacocliclibgaaSs
import Derived.Deep.OwnRows
namespace Go.Proofs.Ytaacocliclibgaa.Gf
set_option linter.unusedVariables false
open Go.RowKit Sl Kb So Sc Si Sr St Sy Sz Sv Ss
theorem infoI : (Try.prog.info? 3).map (fun i => (i.zero, i.size, i.bytes)) = some (some (.int .i64 0), 1, 8) := by kernel_rfl
set_option maxRecDepth 100000 in
set_option maxHeartbeats 400000 in
theorem sortStable_any {w : World} {g n nb rb : Nat} {key : Nat → Int} (E : Env w g n nb rb key) (hn : n ≤ 100) (hR : Row w g n id) :
    Calls Try.prog 25 #[.slice (some ⟨g, 0, none⟩) n n, .func (.func 26) #[] #[.pointer (some ⟨nb, 0, none⟩)]] w fun e w' => e = .returned (.tuple #[]) ∧ Only g w w' ∧ ∃ c, Row w' g n c ∧ Mix id c 0 n ∧ Srt key c 0 n ∧ ∀ k, k < n → c k < n := by
  have ps := stable_any E hn hR
  clear E hR
  go_enter Try.func25, Try.ntmps25
  go_wp2_with fail
  refine ps.mono ?_
  rintro e y ⟨rfl, h⟩
  have H : Hid _ := h
  clear h ps
  go_wp2_with fail
  go_end0
  exact ⟨rfl, H.out⟩
def idU (j : Nat) : Nat → Int := fun i => if i < j then (i : Int) else 0
theorem idU_step (n j : Nat) (h : j < n) : (inC n (idU j)).setIfInBounds j (.int .i64 (j : Int)) = inC n (idU (j + 1)) := by
  rw [inC_set _ _ _ _ h]
  refine inC_ext fun i _ => ?_
  simp only [updI, idU]
  by_cases e : i = j
  · subst e; rw [if_pos rfl, if_pos (by omega)]
  · rw [if_neg e]
    by_cases c : i < j
    · rw [if_pos c, if_pos (by omega)]
    · rw [if_neg c, if_neg (by omega)]
set_option maxRecDepth 100000 in
set_option maxHeartbeats 800000 in
theorem greatest_any (w : World) (n rb : Nat) (key : Nat → Int) (hn : n ≤ 100) (hR : w.heap[rb]? = some (.cells (inC n key) 3 (0, 0))) :
    Calls Try.prog 21 #[.slice (some ⟨rb, 0, none⟩) n n] w fun e w' => ∃ g, e = .returned (.slice (some ⟨g, 0, none⟩) n n) ∧ w.heap.size ≤ g ∧ Below w.heap.size w w' ∧ ∃ c, Row w' g n c ∧ Mix id c 0 n ∧ Srt key c 0 n ∧ ∀ k, k < n → c k < n := by
  have HR : Hid (w.heap[rb]? = some (.cells (inC n key) 3 (0, 0))) := hR
  have mk := fun x => run_make_row' (P := Try.prog) 32 3 (.int .i64 0) 8 Try.underlying32 infoI rfl .i64 .i64 n (by omega) (by omega) x
  simp only [made_inC] at mk
  have HN : Hid (n ≤ 100) := hn
  have n1 : (n : Int) ≤ 100 := by omega
  clear hR hn
  go_enter Try.func21, Try.ntmps21
  go_wp2_with fail
  clear mk
  go_loopw [10] (fun vi wr => ∃ j : Nat, j ≤ n ∧ vi = .int .i64 (j : Int) ∧ Hid (wr.heap[w.heap.size]? = some (.cells #[.slice (some ⟨rb, 0, none⟩) n n] 32 (0, 0)) ∧ wr.heap[w.heap.size + 1]? = some (.cells (inC n (idU j)) 3 (0, 0)) ∧ Below w.heap.size w wr)) (fun vi _ => n + 1 - (intOf vi).toNat)
  case atStart =>
    refine ⟨0, Nat.zero_le _, rfl, h2_0 w _ _, ?_, below_two w _ _⟩
    rw [h2_1 w _ _, show inC n (idU 0) = inC n (fun _ => 0) from inC_ext fun i _ => by simp [idU]]
  case round =>
    obtain ⟨j, hj, rfl, HI⟩ := hrel
    by_cases hlt : j < n
    · have q : (j : Int) < (n : Int) := by omega
      obtain ⟨h1, h2, h3⟩ := HI.out
      have cj : wr.cell? ⟨w.heap.size + 1, j, none⟩ = some (.int .i64 (idU j j)) := cell_row h2 (inC_get _ _ _ hlt)
      have fj : wr.frozen? ⟨w.heap.size + 1, j, none⟩ = false := frozen_row h2
      have HS : Hid ((wr.setCell ⟨w.heap.size + 1, j, none⟩ (.int .i64 (j : Int))).heap[w.heap.size]? = some (.cells #[.slice (some ⟨rb, 0, none⟩) n n] 32 (0, 0)) ∧ (wr.setCell ⟨w.heap.size + 1, j, none⟩ (.int .i64 (j : Int))).heap[w.heap.size + 1]? = some (.cells (inC n (idU (j + 1))) 3 (0, 0)) ∧ Below w.heap.size w (wr.setCell ⟨w.heap.size + 1, j, none⟩ (.int .i64 (j : Int)))) :=
        ⟨(Below.heap_setCell wr ⟨w.heap.size + 1, j, none⟩ _ w.heap.size (by simp)).trans h1, by rw [setCell_heap h2, idU_step n j hlt], h3.setCell (by simp) _⟩
      generalize idU j j = v at *
      clear h1 h2 h3 HI
      go_wp2_with fail
      exact ⟨⟨j + 1, by omega, by go_num, HS⟩, by simp only [intOf]; omega⟩
    · obtain rfl : j = n := by omega
      obtain ⟨h1, h2, h3⟩ := HI.out
      have hrb : rb < w.heap.size := (Array.getElem?_eq_some_iff.1 HR.out).1
      have E : Env wr (w.heap.size + 1) j w.heap.size rb key := ⟨by omega, by omega, h1, (h3.block rb hrb).trans HR.out, by have := HN.out; omega⟩
      have hrow : Row wr (w.heap.size + 1) j id := by
        unfold Row
        rw [h2]
        congr 2
        exact inC_ext fun i hi => by simp [idU, hi]
      have ps := sortStable_any E HN.out hrow
      have HB : Hid (Below w.heap.size w wr) := h3
      clear h1 h2 h3 HI E hrow hrb
      go_wp2_with fail
      refine ps.mono ?_
      rintro e y ⟨rfl, ho, h⟩
      have H : Hid (Below w.heap.size w y ∧ ∃ c, Row y (w.heap.size + 1) j c ∧ Mix id c 0 j ∧ Srt key c 0 j ∧ ∀ k, k < j → c k < j) := ⟨HB.out.trans (ho.1.mono (by omega)), h⟩
      clear h ho ps
      go_wp2_with fail
      go_ret
      exact ⟨w.heap.size + 1, rfl, by omega, H.out⟩
end Go.Proofs.Ytaacocliclibgaa.Gf
