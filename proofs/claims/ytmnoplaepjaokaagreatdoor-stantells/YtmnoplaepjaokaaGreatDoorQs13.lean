import Derived.Test.YtmnoplaepjaokaaGreatDoorQs10
import Derived.Test.YtmnoplaepjaokaaGreatDoorQs12
import Derived.Test.YtmnoplaepjaokaaGreatDoorQs08
/- stan.Field, and the tables. -/
namespace Go.Proofs.YtmnoplaepjaokaaGreatDoor.Yg
set_option linter.unusedVariables false
set_option linter.unusedSimpArgs false
open Go.RowKit Lib0 Kb Xp Num Ya Yb Yc
abbrev Pow (w : World) : Prop := Lib.TabIs Tryz.prog w "internal/strconv.uint64pow10" .u64 Lib.pow10Tab
theorem gPow : Tryz.prog.globalNamed "internal/strconv.uint64pow10" = some 2 := by kernel_rfl
theorem Pow.next {w w' : World} (h : Pow w) (hb : Below w.heap.size w w') : Pow w' := by
  unfold Pow Lib.TabIs World.var? at *
  rw [gPow] at *
  simp only [Option.bind_some] at *
  cases ho : w.heap[2]? with
  | none => rw [ho] at h; simp at h
  | some o => rw [hb.block _ (Array.getElem?_eq_some_iff.1 ho).1]; exact h
/-- the tables that are laid -/
structure Tb (w : World) : Prop where
  pow : Pow w
  tz : Tz.Tab w
theorem Tb.next {w w' : World} (h : Tb w) (hb : Below w.heap.size w w') : Tb w' := ⟨Pow.next h.pow hb, h.tz.next hb⟩
def fieldR (n : Int) : List UInt8 × Int := if isNum n then (dgs 6 n.toNat, 0) else ([], 1)
theorem write6 (n : Int) (h : isNum n = true) : writeR n 6 = (dgs 6 n.toNat, 0) := by
  simp [isNum] at h
  rw [writeR, if_neg (by omega), if_pos (by show n.toNat < 10 ^ 6; omega)]
  rfl
theorem field_any (n : Int) (w : World) (hT : Tb w) : Calls Tryz.prog 14 #[.int .i64 n] w fun e w' => e = .returned (.tuple #[.string ⟨(fieldR n).1.toArray⟩, .int .i64 (fieldR n).2]) ∧ Below w.heap.size w w' := by
  have HI := isNumber_any n w
  cases h : isNum n with
  | false =>
    rw [h] at HI
    have e : fieldR n = ([], 1) := by rw [fieldR, h]; rfl
    rw [e]
    go_enter Tryz.func14, Tryz.ntmps14
    go_wp2_with fail
    refine HI.mono ?_
    rintro e y ⟨rfl, hy⟩
    rw [hy]
    clear hy HI
    go_wp2_with fail
    go_ret2
    exact ⟨rfl, Below.refl _ _⟩
  | true =>
    rw [h] at HI
    have e : fieldR n = (dgs 6 n.toNat, 0) := by rw [fieldR, h]; rfl
    have HW := write_any n 6 w (by simp [isNum] at h; omega) hT.pow
    rw [write6 n h] at HW
    rw [e]
    dsimp only at HW ⊢
    clear hT h e
    generalize (⟨(dgs 6 n.toNat).toArray⟩ : ByteArray) = s at *
    go_enter Tryz.func14, Tryz.ntmps14
    go_wp2_with fail
    refine HI.mono ?_
    rintro e y ⟨rfl, hy⟩
    rw [hy]
    clear hy HI
    go_wp2_with fail
    refine HW.mono ?_
    rintro e y ⟨rfl, hy⟩
    have HB : Hid (Below w.heap.size w y) := hy
    clear hy HW
    go_wp2_with fail
    go_ret2
    exact ⟨rfl, HB.out⟩
end Go.Proofs.YtmnoplaepjaokaaGreatDoor.Yg
/- Reference; the document's digits, Field, Reference. -/
namespace Go.Proofs.YtmnoplaepjaokaaGreatDoor.Ub
set_option linter.unusedVariables false
set_option linter.unusedSimpArgs false
open Go.RowKit Lib0 Kb Xp Num Ca Ld De Oe Hx Dy Dz Pa Te Rt Rj Yg
theorem dgs_cons : ∀ (i n : Nat), dgs (i + 1) n = UInt8.ofNat (48 + n / 10 ^ i % 10) :: dgs i n
  | 0, n => by simp [dgs]
  | i + 1, n => by
    rw [dgs, dgs_cons i (n / 10)]
    simp only [List.cons_append]
    rw [Nat.div_div_eq_div_mul, show 10 * 10 ^ i = 10 ^ (i + 1) by rw [Nat.pow_succ]; omega, dgs]
theorem dc_is (n : Nat) (h : n < 10) : dc (n : Int) = UInt8.ofNat (48 + n) := by
  unfold dc
  rw [show ((48 + (n : Int)).toNat) = 48 + n by omega]
/-- the hour of a moment's day -/
def hr (n : Int) : Nat := (n % 86400 / 3600).toNat
theorem hr_lt (n : Int) : hr n < 24 := by unfold hr; omega
theorem hour_any (n : Int) (h0 : 0 ≤ n) (h1 : n ≤ 3155759999) (w : World) (hT : Tb w) (hA : Tab w) : Calls Tryz.prog 46 #[.int .i64 n] w fun e w' => e = .returned (.string ⟨(dgs 2 (hr n)).toArray⟩) ∧ Below w.heap.size w w' := by
  have HD := date_good n h0 h1 w hA
  have HH : Hid ((n % 86400 / 3600) = ((hr n : Nat) : Int)) := by show _ = _; unfold hr; omega
  have HWR : Hid (∀ y, Tb y → Calls Tryz.prog 43 #[.int .i64 ((hr n : Nat) : Int), .int .i64 2] y fun e w' => e = .returned (.tuple #[.string ⟨(dgs 2 (hr n)).toArray⟩, .int .i64 0]) ∧ Below y.heap.size y w') := fun y hy => by
    have := write_any (hr n : Nat) 2 y (by have := hr_lt n; omega) hy.pow
    have e : writeR ((hr n : Nat) : Int) 2 = (dgs 2 (hr n), 0) := by
      have := hr_lt n
      rw [writeR, if_neg (by omega), if_pos (by show ((hr n : Nat) : Int).toNat < 10 ^ 2; omega)]
      simp
    rw [e] at this
    exact this
  have HT : Hid (Tb w) := hT
  clear hT hA
  rw [HH.out] at HD
  generalize hr n = k at *
  generalize (⟨(dgs 2 k).toArray⟩ : ByteArray) = s at *
  go_enter Tryz.func46, Tryz.ntmps46
  go_wp2_with fail
  refine HD.mono ?_
  rintro e y ⟨⟨Y, M, D, hd, rfl⟩, hb⟩
  have HB : Hid (Below w.heap.size w y) := hb
  clear hd hb HD
  unfold dt
  generalize n % 3600 / 60 = mi at *
  generalize n % 60 = se at *
  have x0 := h1_0 y (.cells #[.int .i64 Y, .int .i64 M, .int .i64 D, .int .i64 (k : Int), .int .i64 mi, .int .i64 se] 119)
  have c3 : (y.alloc (.cells #[.int .i64 Y, .int .i64 M, .int .i64 D, .int .i64 (k : Int), .int .i64 mi, .int .i64 se] 119)).cell? ⟨y.heap.size, 3, none⟩ = some (.int .i64 (k : Int)) := by
    rw [cell_of_row _ _ _ _ _ _ x0]; rfl
  have HB2 : Hid (Below w.heap.size w (y.alloc (.cells #[.int .i64 Y, .int .i64 M, .int .i64 D, .int .i64 (k : Int), .int .i64 mi, .int .i64 se] 119))) := keepB HB.out (below_one _ _)
  clear x0
  go_wp2_with fail
  refine (HWR.out _ (HT.out.next HB2.out)).mono ?_
  rintro e z ⟨rfl, hz⟩
  have HB3 : Hid (Below w.heap.size w z) := keepB HB2.out hz
  clear hz
  go_wp2_with fail
  go_ret
  exact ⟨rfl, HB3.out⟩
def isMom (n : Int) : Bool := decide (0 ≤ n ∧ n ≤ 3155759999)
/-- what Reference says: the code first, then the text of a day -/
def refE (n k : Int) : Int := if isMom n then (if Yc.isNum k then 0 else 1) else 80
/-- what it says of a moment and a number -/
def PostF (w : World) (n k : Int) (e : Ending) (w' : World) : Prop :=
  ((isMom n = false ∧ e = .returned (.tuple #[.string ⟨#[]⟩, .int .i64 80])) ∨ (isMom n = true ∧ Yc.isNum k = false ∧ e = .returned (.tuple #[.string ⟨#[]⟩, .int .i64 1])) ∨ (isMom n = true ∧ Yc.isNum k = true ∧ ∃ Y M D, IsDay (n / 86400) Y M D ∧ e = .returned (.tuple #[.string ⟨(juL Y M D ++ dgs 2 (hr n) ++ dgs 6 k.toNat).toArray⟩, .int .i64 0]))) ∧ Below w.heap.size w w'
theorem juL_len (Y M D : Int) : (juL Y M D).length = 4 := by simp [juL, prL]
theorem str_cat (a b : List UInt8) : (⟨a.toArray⟩ : ByteArray) ++ ⟨b.toArray⟩ = ⟨(a ++ b).toArray⟩ := by
  apply ByteArray.ext; simp
set_option maxRecDepth 100000 in
theorem reference_any (n k : Int) (w : World) (hT : Tb w) (hA : Tab w) : Calls Tryz.prog 16 #[.int .i64 n, .int .i64 k] w (PostF w n k) := by
  cases hm : isMom n with
  | false =>
    have HJ := julian_date n hm w
    have HM : Hid (isMom n = false) := hm
    clear hT hA hm
    go_enter Tryz.func16, Tryz.ntmps16
    go_wp2_with fail
    refine HJ.mono ?_
    rintro e y ⟨rfl, hy⟩
    have HB : Hid (Below w.heap.size w y) := hy
    clear hy HJ
    go_wp2_with fail
    go_ret2
    exact ⟨.inl ⟨HM.out, rfl⟩, HB.out⟩
  | true =>
    have hb := of_decide_eq_true hm
    have HJ := julian_good n hb.1 hb.2 w hA
    have HM : Hid (isMom n = true) := hm
    have HFI : Hid (∀ y, Below w.heap.size w y → Calls Tryz.prog 14 #[.int .i64 k] y fun e w' => e = .returned (.tuple #[.string ⟨(fieldR k).1.toArray⟩, .int .i64 (fieldR k).2]) ∧ Below y.heap.size y w') := fun y hy => field_any k y (hT.next hy)
    have HHO : Hid (∀ y, Below w.heap.size w y → Calls Tryz.prog 46 #[.int .i64 n] y fun e w' => e = .returned (.string ⟨(dgs 2 (hr n)).toArray⟩) ∧ Below y.heap.size y w') := fun y hy => hour_any n hb.1 hb.2 y (hT.next hy) (hA.next hy)
    clear hT hA hm hb
    cases hk : Yc.isNum k with
    | false =>
      have e : fieldR k = ([], 1) := by rw [fieldR, hk]; rfl
      rw [e] at HFI
      have HK : Hid (Yc.isNum k = false) := hk
      clear hk e HHO
      go_enter Tryz.func16, Tryz.ntmps16
      go_wp2_with fail
      refine HJ.mono ?_
      rintro e y ⟨⟨Y, M, D, hd, rfl⟩, hy⟩
      have HB : Hid (Below w.heap.size w y) := hy
      clear hy HJ hd
      generalize (⟨(juL Y M D).toArray⟩ : ByteArray) = sj at *
      go_wp2_with fail
      refine (HFI.out y HB.out).mono ?_
      rintro e z ⟨rfl, hz⟩
      have HBZ : Hid (Below w.heap.size w z) := keepB HB.out hz
      clear hz HFI
      go_wp2_with fail
      go_ret2
      exact ⟨.inr (.inl ⟨HM.out, HK.out, rfl⟩), HBZ.out⟩
    | true =>
      have e : fieldR k = (dgs 6 k.toNat, 0) := by rw [fieldR, hk]; rfl
      rw [e] at HFI
      dsimp only at HFI
      have HK : Hid (Yc.isNum k = true) := hk
      clear hk e
      obtain ⟨s6, H6, h6⟩ : ∃ s : ByteArray, Hid (⟨(dgs 6 k.toNat).toArray⟩ = s) ∧ s.size = 6 := ⟨_, rfl, by show (dgs 6 k.toNat).toArray.size = 6; simp [dgs_length]⟩
      obtain ⟨s2, H2, h2⟩ : ∃ s : ByteArray, Hid (⟨(dgs 2 (hr n)).toArray⟩ = s) ∧ s.size = 2 := ⟨_, rfl, by show (dgs 2 (hr n)).toArray.size = 2; simp [dgs_length]⟩
      rw [H6.out] at HFI
      rw [H2.out] at HHO
      go_enter Tryz.func16, Tryz.ntmps16
      go_wp2_with fail
      refine HJ.mono ?_
      rintro e y ⟨⟨Y, M, D, hd, rfl⟩, hy⟩
      have HB : Hid (Below w.heap.size w y) := hy
      have HDY : Hid (IsDay (n / 86400) Y M D) := hd
      clear hy HJ hd
      obtain ⟨s4, H4, h4⟩ : ∃ s : ByteArray, Hid (⟨(juL Y M D).toArray⟩ = s) ∧ s.size = 4 := ⟨_, rfl, by show (juL Y M D).toArray.size = 4; simp [juL_len]⟩
      rw [H4.out]
      have HS : Hid (s4.size = 4 ∧ s2.size = 2 ∧ s6.size = 6) := ⟨h4, h2, h6⟩
      clear h4 h2 h6
      go_wp2_with fail
      refine (HFI.out y HB.out).mono ?_
      rintro e z ⟨rfl, hz⟩
      have HBZ : Hid (Below w.heap.size w z) := keepB HB.out hz
      clear hz HFI
      go_wp2_with fail
      refine (HHO.out z HBZ.out).mono ?_
      rintro e x ⟨rfl, hx⟩
      have HBX : Hid (Below w.heap.size w x) := keepB HBZ.out hx
      clear hx HHO
      have g1 : ¬ 9223372036854775807 < s4.size + s2.size := by have := HS.out; omega
      have g2 : ¬ 9223372036854775807 < (s4 ++ s2).size + s6.size := by have := HS.out; rw [ByteArray.size_append]; omega
      go_wp2_with fail
      go_ret2
      refine ⟨.inr (.inr ⟨HM.out, HK.out, Y, M, D, HDY.out, ?_⟩), HBX.out⟩
      rw [← str_cat, ← str_cat, H4.out, H2.out, H6.out]
      rfl
end Go.Proofs.YtmnoplaepjaokaaGreatDoor.Ub
