/- The search in a sheet. -/
import Derived.Test.YtmaikkhemhonhaaDa
namespace Go.Proofs.Ytmaikkhemhonhaa.Db
set_option linter.unusedVariables false
set_option linter.unusedSimpArgs false
open Go.RowKit Go.Maps Lib0 Kb Xp Da
attribute [local go_sem] Oper.semAt_some
def fv : Value := .func (.func 60) #[] #[]
theorem up_le {L : List Ap} (h : Up L) {i j : Nat} (hj : j < L.length) (hij : i ≤ j) : (L[i]'(by omega)).2.2 ≤ L[j].2.2 := by
  by_cases e : i = j
  · subst e; exact Int.le_refl _
  · exact List.pairwise_iff_getElem.1 h i j (by omega) hj (by omega)
set_option maxRecDepth 100000 in
set_option maxHeartbeats 1600000 in
theorem search_any (w : World) (v : Value) (L : List Ap) (t : Int) (hr : RowA w v L) (hu : Up L) (hl : L.length ≤ 1000000) :
    Calls Try.prog 59 #[v, .int .i64 t, .func (.func 60) #[] #[]] w fun e w' => (∃ (p : Nat) (b : Bool), e = .returned (.tuple #[.int .i64 (p : Int), .bool b]) ∧ Fr L t p) ∧ Below w.heap.size w w' := by
  obtain ⟨o, cap, rfl, hcell⟩ := hr
  have HC : Hid (∀ i (h : i < L.length), ∃ a : Addr, o = some a ∧ w.cell? (a.add (i * 3)) = some (.int .i64 L[i].1) ∧ w.cell? (a.add (i * 3 + 1)) = some (.int .i64 L[i].2.1) ∧ w.cell? (a.add (i * 3 + 2)) = some (.int .i64 L[i].2.2)) := hcell
  have HU : Hid (Up L) := hu
  obtain ⟨N, HN⟩ : ∃ N, Hid (L.length = N) := ⟨_, rfl⟩
  rw [HN.out] at hl
  rw [HN.out]
  have HL : Hid (N ≤ 1000000) := hl
  clear hcell hu hl
  have CALL : Hid (∀ (a : Ap) (y : World), Calls Try.prog 60 #[apv a, .int .i64 t] y fun e w' => e = .returned (.int .i64 (cm a.2.2 t)) ∧ Below y.heap.size y w') := fun a y => from1_any a t y
  go_enter Try.func59, Try.ntmps59
  go_wp2_with fail
  go_loopw [9, 10] (fun iv jv wr => ∃ i j : Nat, iv = .int .i64 (i : Int) ∧ jv = .int .i64 (j : Int) ∧ i ≤ j ∧ j ≤ N ∧ Hid ((∀ k (h : k < L.length), k < i → L[k].2.2 < t) ∧ (∀ k (h : k < L.length), j ≤ k → t ≤ L[k].2.2)) ∧ Hid (Below w.heap.size w wr)) (fun iv jv _ => (intOf jv).toNat + 1 - (intOf iv).toNat)
  case atStart => exact ⟨0, N, rfl, rfl, Nat.zero_le _, Nat.le_refl _, ⟨fun k h hk => absurd hk (Nat.not_lt_zero _), fun k h hk => absurd h (by rw [HN.out]; omega)⟩, Below.refl _ _⟩
  case round =>
    obtain ⟨i, j, rfl, rfl, hij, hjN, HA, HW⟩ := hrel
    by_cases hlt : i < j
    · have HI : Hid (i < j ∧ j ≤ N) := ⟨hlt, hjN⟩
      have q0 : (i : Int) < (j : Int) := by omega
      have q1 : (0 : Int) ≤ (i : Int) := by omega
      have q2 : (j : Int) ≤ (N : Int) := by omega
      have q3 : (N : Int) ≤ 1000000 := by have := HL.out; omega
      clear hij hjN hlt
      obtain ⟨H, hH⟩ : ∃ H : Nat, (i + j) / 2 = H := ⟨_, rfl⟩
      have eH : ((i : Int) + (j : Int)) / 2 = (H : Int) := by omega
      have HHI : Hid (i ≤ H ∧ H < j) := ⟨by have := HI.out; omega, by have := HI.out; omega⟩
      have hH2 : H < L.length := by have := HI.out; have := HHI.out; rw [HN.out]; omega
      have HX2 : Hid (H < L.length) := hH2
      have q4 : (0 : Int) ≤ (H : Int) := by omega
      have q5 : (H : Int) < (N : Int) := by have := HHI.out; omega
      have q6 : (H : Int) + 1 ≤ 9223372036854775807 := by omega
      obtain ⟨a, rfl, c0, c1, c2⟩ := HC.out H hH2
      have kk : ∀ q u, w.cell? q = some u → wr.cell? q = some u := fun q u hq => (HW.out.cell (World.block_lt_of_cell? w _ hq)).trans hq
      replace c0 := kk _ _ c0
      replace c1 := kk _ _ c1
      replace c2 := kk _ _ c2
      rw [add_field _ _ _ (by decide)] at c1 c2
      have hcall := CALL.out (L[H]'hH2) wr
      obtain ⟨x, HX⟩ : ∃ x : Ap, Hid (∀ h : H < L.length, L[H]'h = x) := ⟨L[H]'hH2, fun _ => rfl⟩
      rw [HX.out hH2] at c0 c1 c2 hcall
      obtain ⟨x0, x1, x2⟩ := x
      unfold apv at hcall
      dsimp only at c0 c1 c2 hcall
      clear kk hH2 hH
      by_cases hx : x2 < t
      · have ec : cm x2 t = -1 := by simp [cm, hx]
        rw [ec] at hcall
        have HLT : Hid (x2 < t) := hx
        clear ec hx
        go_wp2_with fail
        refine hcall.mono ?_
        rintro e w' ⟨rfl, hw'⟩
        go_wp2_with fail
        refine ⟨⟨H + 1, j, by simp, rfl, by have := HHI.out; omega, HI.out.2, ⟨fun k h hk => ?_, HA.out.2⟩, keepB HW.out hw'⟩, ?_⟩
        · have h1 := up_le HU.out HX2.out (i := k) (by omega)
          have h2 := HX.out HX2.out
          rw [h2] at h1
          have := HLT.out
          dsimp only at h1
          omega
        · have := HHI.out; simp only [intOf]; omega
      · have hge : 0 ≤ cm x2 t := by unfold cm; rw [if_neg hx]; split <;> omega
        generalize cm x2 t = cc at *
        have HGE : Hid (t ≤ x2) := by show t ≤ x2; omega
        have HG2 : Hid (decide (cc < 0) = false) := decide_eq_false (by omega)
        clear hx hge
        go_wp2_with fail
        refine hcall.mono ?_
        rintro e w' ⟨rfl, hw'⟩
        have hd := HG2.out
        go_wp2_with fail
        refine ⟨⟨i, H, rfl, by simp, HHI.out.1, by have := HHI.out; have := HI.out; omega, ⟨HA.out.1, fun k h hk => ?_⟩, keepB HW.out hw'⟩, ?_⟩
        · have h1 := up_le HU.out h (i := H) hk
          have h2 := HX.out HX2.out
          rw [h2] at h1
          have := HGE.out
          dsimp only at h1
          omega
        · have := HHI.out; simp only [intOf]; omega
    · obtain rfl : i = j := by omega
      have HF : Hid (Fr L t i) := ⟨by rw [HN.out]; exact hjN, HA.out.1, HA.out.2⟩
      have HIN : Hid (i ≤ N) := hjN
      by_cases hiN : i < N
      · have q5 : (i : Int) < (N : Int) := by omega
        have q4 : (0 : Int) ≤ (i : Int) := by omega
        have hH2 : i < L.length := by rw [HN.out]; exact hiN
        obtain ⟨a, rfl, c0, c1, c2⟩ := HC.out i hH2
        have kk : ∀ q u, w.cell? q = some u → wr.cell? q = some u := fun q u hq => (HW.out.cell (World.block_lt_of_cell? w _ hq)).trans hq
        replace c0 := kk _ _ c0
        replace c1 := kk _ _ c1
        replace c2 := kk _ _ c2
        rw [add_field _ _ _ (by decide)] at c1 c2
        have hcall := CALL.out (L[i]'hH2) wr
        obtain ⟨x, HX⟩ : ∃ x : Ap, Hid (∀ h : i < L.length, L[i]'h = x) := ⟨L[i]'hH2, fun _ => rfl⟩
        rw [HX.out hH2] at c0 c1 c2 hcall
        obtain ⟨x0, x1, x2⟩ := x
        unfold apv at hcall
        dsimp only at c0 c1 c2 hcall
        clear kk hH2 hij hjN hiN hlt HIN
        generalize cm x2 t = cc at *
        go_wp2_with fail
        refine hcall.mono ?_
        rintro e w' ⟨rfl, hw'⟩
        go_wp2_with fail
        go_ret2
        exact ⟨⟨i, _, rfl, HF.out⟩, keepB HW.out hw'⟩
      · obtain rfl : i = N := by omega
        clear hij hjN hiN hlt HIN
        go_wp2_with fail
        go_ret2
        exact ⟨⟨i, _, rfl, HF.out⟩, HW.out⟩
/-- a sheet in its block -/
structure ShM (x : World) (base g : Nat) (v : Value) (L : List Ap) : Prop where
  blk : x.heap[g]? = some (.cells #[v, .int .i64 (uS L)] tS (0, 0))
  row : x.ownsRow base tA 3 v L.length (apc L)
  low : base ≤ g
theorem ShM.below {x y : World} {base g : Nat} {v : Value} {L : List Ap} (h : ShM x base g v L) (k : Below x.heap.size x y) : ShM y base g v L := ⟨kept k h.blk, own_keep h.row fun g hg => k.block g (h.row.lt g hg).2, h.low⟩
theorem ShM.cells {x : World} {base g : Nat} {v : Value} {L : List Ap} (h : ShM x base g v L) : x.cell? ⟨g, 0, none⟩ = some v ∧ x.cell? ⟨g, 1, none⟩ = some (.int .i64 (uS L)) := by
  have := h.blk
  exact ⟨by simp [World.cell?, this], by simp [World.cell?, this]⟩
theorem from_any {w : World} {base g : Nat} {v : Value} {L : List Ap} (h : ShM w base g v L) (t : Int) (hu : Up L) (hl : L.length ≤ 1000000) : Calls Try.prog 55 #[.pointer (some ⟨g, 0, none⟩), .int .i64 t] w fun e w' => (∃ p : Nat, e = .returned (.int .i64 (p : Int)) ∧ Fr L t p) ∧ Below w.heap.size w w' := by
  have c0 := h.cells.1
  have HS : Hid (Calls Try.prog 59 #[v, .int .i64 t, .func (.func 60) #[] #[]] w fun e w' => (∃ (p : Nat) (b : Bool), e = .returned (.tuple #[.int .i64 (p : Int), .bool b]) ∧ Fr L t p) ∧ Below w.heap.size w w') := search_any w v L t (rowa_own h.row) hu hl
  obtain ⟨o, cap, rfl, -⟩ := own_form h.row
  clear h hu hl
  go_enter Try.func55, Try.ntmps55
  go_wp2_with fail
  refine HS.out.mono ?_
  rintro e y ⟨⟨p, b, rfl, hp⟩, hb⟩
  have HP : Hid (Fr L t p) := hp
  clear hp
  go_wp2_with fail
  go_ret
  exact ⟨⟨p, rfl, HP.out⟩, hb⟩
end Go.Proofs.Ytmaikkhemhonhaa.Db
