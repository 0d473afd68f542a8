/- Same. -/
import Derived.Test.YtpifebapodfeaabSm
import Derived.Lib.SlicesS
namespace Go.Proofs.Ytpifebapodfeaab.Sa
set_option linter.unusedVariables false
open Go.RowKit Cb Sm
theorem or8 (x y : UInt8) : bits .or .u8 (x.toNat : Int) (y.toNat : Int) = ((x ||| y).toNat : Int) := by
  rw [u8_or_nat _ _ x.toNat_lt y.toNat_lt, UInt8.toNat_or]
theorem xor8 (x y : UInt8) : bits .xor .u8 (x.toNat : Int) (y.toNat : Int) = ((x ^^^ y).toNat : Int) := by
  rw [u8_xor_nat _ _ x.toNat_lt y.toNat_lt, UInt8.toNat_xor]
def df (a b : ByteArray) : Nat → UInt8
  | 0 => 0
  | j + 1 => df a b j ||| (a.data.toList.getD j 0 ^^^ b.data.toList.getD j 0)
theorem df_zero (a b : ByteArray) : ∀ j, df a b j = 0 ↔ ∀ i, i < j → a.data.toList.getD i 0 = b.data.toList.getD i 0
  | 0 => by simp [df]
  | j + 1 => by
      rw [df, UInt8.or_eq_zero_iff, UInt8.xor_eq_zero_iff, df_zero a b j]
      constructor
      · rintro ⟨h1, h2⟩ i hi
        by_cases h : i < j
        · exact h1 i h
        · obtain rfl : i = j := by omega
          exact h2
      · intro h
        exact ⟨fun i hi => h i (by omega), h j (by omega)⟩
theorem df_eq (a b : ByteArray) (h : a.size = b.size) : (df a b a.size = 0) ↔ a = b := by
  rw [df_zero]
  constructor
  · intro hi
    apply ByteArray.ext
    apply Array.ext'
    apply List.ext_getElem?
    intro i
    have e1 : a.data.toList.length = a.size := by simp
    have e2 : b.data.toList.length = b.size := by simp
    by_cases hl : i < a.size
    · have := hi i hl
      rw [List.getD_eq_getElem?_getD, List.getD_eq_getElem?_getD, List.getElem?_eq_getElem (by omega), List.getElem?_eq_getElem (by omega)] at this
      rw [List.getElem?_eq_getElem (by omega), List.getElem?_eq_getElem (by omega)]
      simpa using this
    · rw [List.getElem?_eq_none (by omega), List.getElem?_eq_none (by omega)]
  · rintro rfl i _
    rfl
theorem getD_at (a : ByteArray) (j : Nat) (h : j < a.size) : a.data.toList.getD j 0 = a[j] := by
  rw [List.getD_eq_getElem?_getD, List.getElem?_eq_getElem (by simpa using h)]
  simp; rfl
set_option maxRecDepth 100000 in
set_option maxHeartbeats 1600000 in
theorem same_any (a b : ByteArray) (ha : a.size ≤ 9223372036854775807) (w : World) :
    Calls Try.prog 24 #[.string a, .string b] w fun e w' => e = .returned (.bool (a.toList == b.toList)) ∧ Below w.heap.size w w' := by
  by_cases hab : a.size = b.size
  · have Hab : Hid (a.size = b.size) := hab
    have q : ((a.size : Int) != (b.size : Int)) = false := by simp only [bne_eq_false_iff_eq]; omega
    clear hab
    go_enter Try.func24, Try.ntmps24
    go_wp2
    go_loopw [5, 6, 14] (fun d i c wr => ∃ (j : Nat), d = .int .u8 ((df a b j).toNat : Int) ∧ j ≤ a.size ∧ c = .int .i64 (j : Int) ∧ Below w.heap.size w wr) (fun _ _ c _ => a.size + 1 - (intOf c).toNat)
    case atStart => exact ⟨0, rfl, Nat.zero_le _, rfl, Below.refl _ _⟩
    case round =>
      obtain ⟨j, rfl, hj, rfl, hb⟩ := hrel
      by_cases hlt : j < a.size
      · have hjb : j < b.size := by have := Hab.out; omega
        have q0 : (0 : Int) ≤ (j : Int) := by omega
        have q1 : (j : Int) < (a.size : Int) := by omega
        have q2 : (j : Int) < (b.size : Int) := by omega
        have u1 := xor8 a[j] b[j]
        have u2 := or8 (df a b j) (a[j] ^^^ b[j])
        have HD : Hid (df a b j ||| (a[j] ^^^ b[j]) = df a b (j + 1)) := (by rw [df, getD_at a j hlt, getD_at b j hjb] : df a b j ||| (a[j] ^^^ b[j]) = df a b (j + 1))
        rw [HD.out] at u2
        clear HD
        go_wp2_with fail
        go_region
        go_wp2
        exact ⟨⟨j + 1, by rw [← UInt8.toNat_xor, u2], hlt, by simp, hb.drew⟩, by simp only [intOf]; omega⟩
      · obtain rfl : j = a.size := by omega
        have q1 : ¬ (a.size : Int) < (a.size : Int) := by omega
        have HE' : (((df a b a.size).toNat : Int) == 0) = (a.toList == b.toList) := by
          have h := df_eq a b Hab.out
          by_cases e : a = b
          · rw [show df a b a.size = 0 from h.2 e, (Lib.bytes_beq_iff a b).2 e]; rfl
          · have n : df a b a.size ≠ 0 := fun x => e (h.1 x)
            rw [(Lib.bytes_beq_false_iff a b).2 e]
            have : (df a b a.size).toNat ≠ 0 := fun x => n (UInt8.toNat_inj.1 (by simpa using x))
            simp only [beq_eq_false_iff_ne]; omega
        have HE : Hid ((((df a b a.size).toNat : Int) == 0) = (a.toList == b.toList)) := HE'
        clear HE'
        generalize (df a b a.size).toNat = D0 at *
        go_wp2
        go_ret
        exact ⟨by rw [HE.out]; rfl, hb⟩
  · have q : ((a.size : Int) != (b.size : Int)) = true := by simp only [bne_iff_ne]; omega
    have HE : Hid ((a.toList == b.toList) = false) := (Lib.bytes_beq_false_iff a b).2 fun e => hab (by rw [e])
    clear hab
    go_enter Try.func24, Try.ntmps24
    go_wp2
    go_ret
    exact ⟨by rw [HE.out]; rfl, Below.refl _ _⟩
end Go.Proofs.Ytpifebapodfeaab.Sa
