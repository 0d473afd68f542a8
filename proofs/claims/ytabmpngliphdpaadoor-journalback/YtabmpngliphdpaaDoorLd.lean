/- the law's whole and pick. -/
import Derived.Test.YtabmpngliphdpaaDoorLc
namespace Go.Proofs.YtabmpngliphdpaaDoor.Ld
set_option linter.unusedVariables false
set_option linter.unusedSimpArgs false
open Go.RowKit Go.Shelf Go.Conc Lib0 Kb Ja Bj Ke Kf Ko La Lb Lc
attribute [local go_sem] Oper.semAt_some
theorem addr0 (g j : Nat) : (⟨g, 0, none⟩ : Addr).add j = ⟨g, j, none⟩ := by
  unfold Addr.add
  split
  · rename_i h; subst h; rfl
  · simp
theorem row_cell {w : World} {B e n : Nat} {g cap : Nat} {xs : List Value} (h : w.ownsRow B e 1 (.slice (some ⟨g, 0, none⟩) n cap) n xs) {j : Nat} {u : Value} (hu : xs[j]? = some u) : w.cell? ⟨g, j, none⟩ = some u := by
  obtain ⟨h1, h2⟩ := h
  rcases h2 with ⟨h2, _⟩ | ⟨g', cap', cur, he, _, hg, hn, _, hs, ht⟩
  · cases h2
  · cases he
    unfold World.cell?
    show (match w.heap[g]? with | some (.cells c _ _) => c[j]? | _ => none) = some u
    rw [hg]
    show cur[j]? = some u
    rw [← ht, List.getElem?_take] at hu
    split at hu
    · rw [← hu]; simp
    · cases hu
theorem posV_at (xs : List En) (n j : Nat) (h : j < n) : (posV xs n)[j]? = some (.int .i64 (pos xs j : Int)) := by
  unfold posV
  rw [List.getElem?_map, List.getElem?_range h]; rfl
set_option maxRecDepth 100000 in
set_option maxHeartbeats 1600000 in
theorem pick_all (c : Int) (hc : i64in c) (n : Nat) (hn : 0 < n) (hb : n ≤ 4611686018427387904) :
    ∃ r : Nat, r < n ∧ ∀ w, Calls Tryd.prog 31 #[.int .i64 c, .int .i64 (n : Int)] w fun e w' => e = .returned (.int .i64 (r : Int)) ∧ w' = w := by
  unfold i64in at hc
  have fin : ∀ d : Int, 0 ≤ d → ∃ r : Nat, d.tmod (n : Int) = (r : Int) ∧ r < n := fun d hd => by
    refine ⟨(d.tmod n).toNat, ?_, ?_⟩
    · have := Int.tmod_nonneg (n : Int) hd; omega
    · have h1 := Int.tmod_nonneg (n : Int) hd
      have h2 := Int.tmod_lt_of_pos d (b := (n : Int)) (by omega)
      omega
  by_cases h : c < 0
  · have p1 : -9223372036854775808 ≤ c + 1 := by omega
    have p2 : c + 1 ≤ 9223372036854775807 := by omega
    have p3 : (n : Int) ≠ 0 := by omega
    obtain ⟨r, hr, hrn⟩ := fin (-(c + 1)) (by omega)
    have FIN : Hid ((-(c + 1)).tmod (n : Int) = (r : Int) ∧ r < n) := ⟨hr, hrn⟩
    refine ⟨r, hrn, fun w => ?_⟩
    clear fin hr hrn
    go_enter Tryd.func31, Tryd.ntmps31
    go_wp2_with fail
    go_ret
    exact ⟨by rw [← FIN.out.1, Int.neg_tmod]; rfl, rfl⟩
  · have p1 : 0 ≤ c := by omega
    have p3 : (n : Int) ≠ 0 := by omega
    obtain ⟨r, hr, hrn⟩ := fin c (by omega)
    have FIN : Hid (c.tmod (n : Int) = (r : Int) ∧ r < n) := ⟨hr, hrn⟩
    refine ⟨r, hrn, fun w => ?_⟩
    clear fin hr hrn
    go_enter Tryd.func31, Tryd.ntmps31
    go_wp2_with fail
    go_ret
    exact ⟨by rw [← FIN.out.1, Int.tmod_eq_emod_of_nonneg p1]; rfl, rfl⟩
theorem pick_any (w : World) (c : Int) (hc : i64in c) (n : Nat) (hn : 0 < n) (hb : n ≤ 4611686018427387904) :
    Calls Tryd.prog 31 #[.int .i64 c, .int .i64 (n : Int)] w fun e w' => w' = w ∧ ∃ r : Nat, e = .returned (.int .i64 (r : Int)) ∧ r < n := by
  obtain ⟨r, hr, h⟩ := pick_all c hc n hn hb
  exact (h w).mono fun e w' hh => ⟨hh.2, r, hh.1, hr⟩
set_option maxRecDepth 100000 in
set_option maxHeartbeats 1600000 in
theorem whole_any {w : World} {B : Nat} {ev : Value} {xs : List En} (hE : w.ownsRow B tI 1 ev (xs.length + 1) (posV xs (xs.length + 1))) (hg : ∀ x ∈ xs, Ko.Good x) (hN : xs.length ≤ 40) (c : Nat) (hc : c ≤ 4611686018427387904) :
    Calls Tryd.prog 32 #[ev, .int .i64 (c : Int)] w fun e w' => w' = w ∧ ∃ K : Nat, e = .returned (.int .i64 (K : Int)) ∧ K ≤ xs.length ∧ pos xs K ≤ c ∧ (K = xs.length ∨ c < pos xs (K + 1)) := by
  obtain ⟨N, HN⟩ : ∃ N, Hid (xs.length = N) := ⟨_, rfl⟩
  rw [HN.out] at hE hN ⊢
  obtain ⟨g, cap, rfl⟩ : ∃ g cap, ev = .slice (some ⟨g, 0, none⟩) (N + 1) cap := by
    rcases hE.2 with ⟨_, h⟩ | ⟨g, cap, cur, he, _⟩
    · omega
    · exact ⟨g, cap, he⟩
  have HCE : Hid (∀ j, j < N + 1 → w.cell? ⟨g, j, none⟩ = some (.int .i64 (pos xs j : Int))) := fun j hj => row_cell hE (posV_at xs (N + 1) j hj)
  have HB : Hid (N ≤ 40 ∧ c ≤ 4611686018427387904) := ⟨hN, hc⟩
  have HG : Hid (∀ x ∈ xs, Ko.Good x) := hg
  clear hE hN hc hg
  go_enter Tryd.func32, Tryd.ntmps32
  go_wp2_with fail
  go_loopw [5] (fun nv wr => wr = w ∧ ∃ n : Nat, nv = .int .i64 (n : Int) ∧ Hid (n ≤ N ∧ pos xs n ≤ c)) (fun nv _ => 41 - (intOf nv).toNat)
  case atStart => exact ⟨rfl, 0, rfl, Nat.zero_le _, by rw [pos_zero]; exact Nat.zero_le _⟩
  case round =>
    obtain ⟨rfl, n, rfl, HI⟩ := hrel
    have hb := HB.out
    have hi := HI.out
    have q0 : (n : Int) + 1 ≤ 9223372036854775807 := by omega
    by_cases hlt : n < N
    · have q1 : (n : Int) + 1 < ((N + 1 : Nat) : Int) := by omega
      have q3 : (0 : Int) ≤ (n : Int) + 1 := by omega
      have c1 : wr.cell? ⟨g, n + 1, none⟩ = some (.int .i64 (pos xs (n + 1) : Int)) := HCE.out (n + 1) (by omega)
      obtain ⟨Z, hZ⟩ : ∃ Z, pos xs (n + 1) = Z := ⟨_, rfl⟩
      rw [hZ] at c1
      by_cases hle : Z ≤ c
      · have q2 : (Z : Int) ≤ (c : Int) := by omega
        go_wp2_with fail
        exact ⟨⟨trivial, n + 1, by push_cast; rfl, by omega, by omega⟩, by simp only [intOf]; omega⟩
      · have q2 : (c : Int) < (Z : Int) := by omega
        go_wp2_with fail
        go_ret
        exact ⟨rfl, n, rfl, hi.1, hi.2, .inr (by omega)⟩
    · have q1 : ((N + 1 : Nat) : Int) ≤ (n : Int) + 1 := by omega
      go_wp2_with fail
      go_ret
      exact ⟨rfl, n, rfl, hi.1, hi.2, .inl (by omega)⟩
end Go.Proofs.YtabmpngliphdpaaDoor.Ld
