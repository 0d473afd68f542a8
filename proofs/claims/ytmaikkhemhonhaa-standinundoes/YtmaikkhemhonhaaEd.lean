/- The newest approval of a record. -/
import Derived.Test.YtmaikkhemhonhaaEc
namespace Go.Proofs.Ytmaikkhemhonhaa.Ed
set_option linter.unusedVariables false
set_option linter.unusedSimpArgs false
open Go.RowKit Go.Maps Lib0 Kb Xp Da Db Dc Dd De Df Dh Dp Dz Ea Eb Ec
attribute [local go_sem] Oper.semAt_some
theorem lastN_get {L : List Ap} (h : 0 < L.length) : lastN L = (L[L.length - 1]'(by omega)).1 := by
  unfold lastN
  rw [List.getLast?_eq_getElem?, List.getElem?_eq_getElem (by omega)]
set_option maxRecDepth 100000 in
set_option maxHeartbeats 3200000 in
theorem newest_any {w : World} {base GR GM GS NM : Nat} {D : DataW Value} {OP : Int} {v : Value} {L : List Ap} (c1 : w.cell? ⟨GR, 1, none⟩ = some (.map (some GM))) (hown : w.ownsMap Try.prog tI heldP GM NM D) (hone : One1 D OP GS) (hsh : ShM w base GS v L) (h0 : 0 < L.length) (hl : L.length ≤ 1000000) (hpos : 0 < lastN L) : Calls Try.prog 45 #[.pointer (some ⟨GR, 0, none⟩)] w fun e w' => e = .returned (.int .i64 (lastN L)) ∧ Below w.heap.size w w' := by
  have hbl := hown.lt
  have HONE : Hid (One1 D OP GS) := hone
  obtain ⟨gr, cap, rfl⟩ : ∃ gr cap, v = .slice (some ⟨gr, 0, none⟩) L.length cap := by
    rcases hsh.row.2 with ⟨rfl, h0⟩ | ⟨g2, c2, cur, rfl, -⟩
    · omega
    · exact ⟨g2, c2, rfl⟩
  obtain ⟨n, hn⟩ : ∃ n, L.length = n + 1 := ⟨L.length - 1, by omega⟩
  have HSH : Hid (∀ y, Below w.heap.size w y → y.cell? ⟨GS, 0, none⟩ = some (.slice (some ⟨gr, 0, none⟩) (n + 1) cap) ∧ y.cell? ⟨gr, n * 3, none⟩ = some (.int .i64 (lastN L))) := fun y hy => by
    have h1 := hsh.below hy
    obtain ⟨o, c, e, hc⟩ := rowa_own h1.row
    injection e with e1 e2 e3
    subst e1
    obtain ⟨ad, ea, r0, -⟩ := hc n (by omega)
    injection ea with ea
    subst ea
    rw [add_zero] at r0
    refine ⟨by have := h1.cells.1; rw [hn] at this; exact this, ?_⟩
    rw [lastN_get h0]
    have e5 : L[L.length - 1]'(by omega) = L[n]'(by omega) := by congr 1; omega
    rw [e5]; exact r0
  generalize lastN L = LN at *
  obtain ⟨M, hM⟩ : ∃ M, n + 1 = M := ⟨_, rfl⟩
  have HM : Hid (n + 1 = M) := hM
  rw [hM] at HSH
  have q5 : (n : Int) ≤ 1000000 := by omega
  clear hsh hone hl h0 hn hM
  go_enter Try.func45, Try.ntmps45
  go_wp2_with (first
    | (at_range; refine wpList_range_own _ rfl _ tM rfl tI tPS law Try.underlying88 _ GM NM _ rfl hown ?_; intro w0 hrg0 hg0 hs0)
    | fail)
  go_frame
  go_loopw [3, 5] (fun fv _ wr => ∃ (left : Lit → Bool) (cnt : Nat), Hid (wr.ranges Try.prog tI heldP GM w.heap.size NM D left cnt) ∧ Hid (Below w.heap.size w wr) ∧
      ((fv = .int .i64 0 ∧ Hid (left (.int .i64 OP) = true ∧ ∀ l, left l = true → l = .int .i64 OP)) ∨ (fv = .int .i64 LN ∧ Hid (∀ l, left l = false))))
    (fun _ _ wr => wr.rangeLeft GM w.heap.size)
  case atStart =>
    exact ⟨_, _, hrg0, (Below.refl _ _).grown hg0 (Nat.le_refl _) (fun j hj => by cases hj), .inl ⟨rfl, (HONE.out.has _).2 rfl, fun l hl => (HONE.out.has l).1 hl⟩⟩
  case round =>
    obtain ⟨left, cnt, HRG, HB, hcase⟩ := hrel
    have hrg := HRG.out
    rcases hcase with ⟨rfl, HROW⟩ | ⟨rfl, HROW⟩
    · go_wp2_with (first
        | (at_next; refine wpList_next_ranges _ rfl _ rfl tI law heldP (Value.int .i64) Value.pointer (fun key kl hk => by obtain ⟨x, hx, _⟩ := Maps.keyOf_int_inv Try.underlying3 hk; exact ⟨x, hx⟩) heldP_inv GM w.heap.size NM _ _ _ rfl hrg ?_ ?_)
        | fail)
      · intro hc0 hl0
        have := HROW.out.1
        rw [hl0] at this
        cases this
      · intro x c kl yd yp w2 cnt2 hkey hlk hv hat hrg2 hlt hg2 hs2 hen
        obtain rfl := HROW.out.2 kl hlk
        obtain rfl := ptr_at HONE.out hv hat
        have HB2 : Hid (Below w.heap.size w w2) := HB.out.grown hg2 HB.out.size (fun j hj => by cases hj; exact Nat.le_refl _)
        have HRG2 : Hid (w2.ranges Try.prog tI heldP GM w.heap.size NM D (fun z => left z && !z.sameKey (.int .i64 OP)) cnt2) := hrg2
        have HLT : Hid (cnt2 < cnt) := hlt
        have HSM : Hid (∀ l, left l = true → l = .int .i64 OP) := HROW.out.2
        have HLF : Hid (∀ l, (left l && !l.sameKey (.int .i64 OP)) = false) := fun l => by
          cases hl : left l with
          | false => rfl
          | true =>
            obtain rfl := HSM.out l hl
            simp [Lit.sameKey]
        obtain ⟨d0, d1⟩ := HSH.out w2 HB2.out
        have g0 : w2.drew.cell? ⟨GS, 0, none⟩ = some (.slice (some ⟨gr, 0, none⟩) M cap) := d0
        have g1 : w2.drew.cell? ⟨gr, n * 3, none⟩ = some (.int .i64 LN) := d1
        have q0 : (M : Int) - 1 = (n : Int) := by have := HM.out; omega
        have q1 : (n : Int) < (M : Int) := by have := HM.out; omega
        have q6 : (M : Int) ≤ 1000001 := by have := HM.out; omega
        have q7 : (0 : Int) < (M : Int) := by have := HM.out; omega
        have hwr : IntKind.i64.wrap (n : Int) = (n : Int) := wrap_64 _ (by omega) (by omega)
        have q2 : (0 : Int) ≤ (n : Int) := by omega
        clear hs2 hrg2 hg2 hlt hv hat hlk hkey HROW hrg
        go_wp2_with fail
        go_quiet (fail)
        go_wp2_with fail
        have HBE : Hid (Below w.heap.size w (w2.drewN nq)) := below_drewN HB2.out _
        have hrg3 := ranges_keep HRG2.out (below_drewN (Below.refl _ w2) nq)
        refine ⟨⟨_, cnt2, hrg3, HBE, .inr ⟨by simp [hpos], HLF⟩⟩, ?_⟩
        rw [hrg3.left_eq, HRG.out.left_eq]; exact HLT.out
    · go_wp2_with (first
        | (at_next; refine wpList_next_ranges _ rfl _ rfl tI law heldP (Value.int .i64) Value.pointer (fun key kl hk => by obtain ⟨x, hx, _⟩ := Maps.keyOf_int_inv Try.underlying3 hk; exact ⟨x, hx⟩) heldP_inv GM w.heap.size NM _ _ _ rfl hrg ?_ ?_)
        | fail)
      · intro hc0 hl0
        clear hrg hc0 hl0
        go_wp2_with fail
        go_ret
        exact ⟨rfl, HB.out⟩
      · intro x c kl yd yp w2 cnt2 hkey hlk hv hat hrg2 hlt hg2 hs2 hen
        have := HROW.out kl
        rw [hlk] at this
        cases this
end Go.Proofs.Ytmaikkhemhonhaa.Ed
