/- An approval is found in a record; the newest one. -/
import Derived.Test.YtmaikkhemhonhaaEb
namespace Go.Proofs.Ytmaikkhemhonhaa.Ec
set_option linter.unusedVariables false
set_option linter.unusedSimpArgs false
open Go.RowKit Go.Maps Lib0 Kb Xp Da Db Dc Dd De Df Dh Dp Dz Ea Eb
attribute [local go_sem] Oper.semAt_some
theorem ptr_at {D : DataW Value} {OP : Int} {GS : Nat} (h : One1 D OP GS) {c : Option Addr} {yd : DataW Value} {yp : List MemPlace} (hv : heldP (.pointer c) = some (yd, yp)) (hat : ∀ zd, D.atKey (.int .i64 OP) zd = yd) : c = some ⟨GS, 0, none⟩ := by
  have h1 := hat (.held (ptr GS))
  rw [h.at_] at h1
  have h2 : DataW.held (.pointer c) = yd := by simp [heldP] at hv; exact hv.1
  rw [← h2] at h1
  injection h1 with h1
  unfold ptr at h1
  injection h1 with h1
  exact h1.symm
set_option maxRecDepth 100000 in
set_option maxHeartbeats 3200000 in
theorem findR_any {w : World} {base : Nat} {a : Rc} {pl : Int} (h : RM w base a pl) (u t : Int) : Calls Try.prog 42 #[.pointer (some ⟨a.gr, 0, none⟩), .int .i64 u, .int .i64 t] w fun e w' => (∃ r, Fnd a.L u t r ∧ e = .returned (.int .i64 (if 0 ≤ r then a.op else 0))) ∧ Below w.heap.size w w' := by
  obtain ⟨c0, c1, c2, c3, c4, -⟩ := h.cells
  have hown := h.2.own
  have hbl := hown.lt
  have HC : Hid (∀ y, Below w.heap.size w y → Calls Try.prog 44 #[.pointer (some ⟨a.gs, 0, none⟩), .int .i64 u, .int .i64 t] y fun e w' => (∃ r, e = .returned (.int .i64 r) ∧ Fnd a.L u t r) ∧ Below y.heap.size y w') := fun y hy => findS_any (h.below hy).2.sh u t h.2.up (by have := h.2.len; omega)
  have HONE : Hid (One1 a.D a.op a.gs) := h.2.one
  clear h c0 c2 c3 c4
  generalize a.gr = GR at *
  generalize a.gs = GS at *
  generalize a.gm = GM at *
  generalize a.op = OP at *
  generalize a.nm = NM at *
  generalize a.D = D at *
  generalize a.L = L at *
  go_enter Try.func42, Try.ntmps42
  go_wp2_with (first
    | (at_range; refine wpList_range_own _ rfl _ tM rfl tI tPS law Try.underlying88 _ GM NM _ rfl hown ?_; intro w0 hrg0 hg0 hs0)
    | fail)
  go_frame
  go_loopw [7, 8, 9] (fun fv _ _ wr => ∃ (left : Lit → Bool) (cnt : Nat), Hid (wr.ranges Try.prog tI heldP GM w.heap.size NM D left cnt) ∧ Hid (Below w.heap.size w wr) ∧
      ((fv = .int .i64 0 ∧ Hid (left (.int .i64 OP) = true ∧ ∀ l, left l = true → l = .int .i64 OP)) ∨ (∃ r, Hid (Fnd L u t r) ∧ fv = .int .i64 (if 0 ≤ r then OP else 0) ∧ Hid (∀ l, left l = false))))
    (fun _ _ _ wr => wr.rangeLeft GM w.heap.size)
  case atStart =>
    exact ⟨_, _, hrg0, (Below.refl _ _).grown hg0 (Nat.le_refl _) (fun j hj => by cases hj), .inl ⟨rfl, (HONE.out.has _).2 rfl, fun l hl => (HONE.out.has l).1 hl⟩⟩
  case round =>
    obtain ⟨left, cnt, HRG, HB, hcase⟩ := hrel
    have hrg := HRG.out
    rcases hcase with ⟨rfl, HROW⟩ | ⟨r, HR, rfl, HROW⟩
    · go_wp2_with (first
        | (at_next; refine wpList_next_ranges _ rfl _ rfl tI law heldP (Value.int .i64) Value.pointer (fun key kl hk => by obtain ⟨x, hx, _⟩ := Maps.keyOf_int_inv Try.underlying3 hk; exact ⟨x, hx⟩) heldP_inv GM w.heap.size NM _ _ _ rfl hrg ?_ ?_)
        | fail)
      · intro hc0 hl0
        have := HROW.out.1
        rw [hl0] at this
        cases this
      · intro x c kl yd yp w2 cnt2 hkey hlk hv hat hrg2 hlt hg2 hs2 hen
        obtain rfl := HROW.out.2 kl hlk
        obtain rfl := ptr_at HONE.out hv hat
        have ex : x = OP := by
          obtain ⟨x', e1, e2, -⟩ := Maps.keyOf_int_inv Try.underlying3 hkey
          injection e1 with _ e1
          injection e2 with _ e2
          omega
        subst ex
        have HB2 : Hid (Below w.heap.size w w2) := HB.out.grown hg2 HB.out.size (fun j hj => by cases hj; exact Nat.le_refl _)
        have HRG2 : Hid (w2.ranges Try.prog tI heldP GM w.heap.size NM D (fun z => left z && !z.sameKey (.int .i64 x)) cnt2) := hrg2
        have HLT : Hid (cnt2 < cnt) := hlt
        have HSM : Hid (∀ l, left l = true → l = .int .i64 x) := HROW.out.2
        clear hs2 hrg2 hg2 hlt hv hat hlk hkey HROW hrg
        go_wp2_with fail
        refine (HC.out w2 HB2.out).mono ?_
        rintro e w3 ⟨⟨r, rfl, hr⟩, hw3⟩
        have HR : Hid (Fnd L u t r) := hr
        have hrg3 := ranges_keep HRG2.out hw3
        have HRG3 : Hid (w3.ranges Try.prog tI heldP GM w.heap.size NM D (fun z => left z && !z.sameKey (.int .i64 x)) cnt2) := hrg3
        have HB3 : Hid (Below w.heap.size w w3) := keepB HB2.out hw3
        have HLF : Hid (∀ l, (left l && !l.sameKey (.int .i64 x)) = false) := fun l => by
          cases hl : left l with
          | false => rfl
          | true =>
            obtain rfl := HSM.out l hl
            simp [Lit.sameKey]
        clear hr hrg3 hw3
        by_cases hr0 : 0 ≤ r
        · have b1 : decide (0 ≤ r) = true := decide_eq_true hr0
          go_wp2_with fail
          refine ⟨⟨_, cnt2, HRG3, HB3, .inr ⟨r, HR, by simp [hr0], HLF⟩⟩, ?_⟩
          rw [HRG3.out.left_eq, HRG.out.left_eq]; exact HLT.out
        · have b1 : decide (0 ≤ r) = false := decide_eq_false hr0
          have HR0 : Hid (¬ 0 ≤ r) := hr0
          clear hr0
          go_wp2_with fail
          refine ⟨⟨_, cnt2, HRG3, HB3, .inr ⟨r, HR, by rw [if_neg (by have := HR0.out; omega)], HLF⟩⟩, ?_⟩
          rw [HRG3.out.left_eq, HRG.out.left_eq]; exact HLT.out
    · obtain ⟨FV, HFV⟩ : ∃ FV : Int, Hid ((if 0 ≤ r then OP else 0) = FV) := ⟨_, rfl⟩
      rw [HFV.out]
      go_wp2_with (first
        | (at_next; refine wpList_next_ranges _ rfl _ rfl tI law heldP (Value.int .i64) Value.pointer (fun key kl hk => by obtain ⟨x, hx, _⟩ := Maps.keyOf_int_inv Try.underlying3 hk; exact ⟨x, hx⟩) heldP_inv GM w.heap.size NM _ _ _ rfl hrg ?_ ?_)
        | fail)
      · intro hc0 hl0
        clear hrg hc0 hl0
        go_wp2_with fail
        go_ret
        exact ⟨⟨r, HR.out, by rw [HFV.out]; rfl⟩, HB.out⟩
      · intro x c kl yd yp w2 cnt2 hkey hlk hv hat hrg2 hlt hg2 hs2 hen
        have := HROW.out kl
        rw [hlk] at this
        cases this
end Go.Proofs.Ytmaikkhemhonhaa.Ec
