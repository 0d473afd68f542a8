import Derived.Test.YtciblmdpngnakaaQv25
import Derived.Test.YtciblmdpngnakaaQv18
/- The document's block under a whole key; Turn, Chain, Length. -/
namespace Go.Proofs.Ytciblmdpngnakaa.Rl
set_option linter.unusedVariables false
open Go.RowKit Pla Cb Wd Nw Bk Eb Et Cc Ch Pm Ro
open Bl (len_size mk_eq)
open Ea (dl szL ext_list cat_mk bits_xorL)
open Xo (xorL xorL_len)
def lenB (n : Nat) : Bool := (n == 8) || (n == 16) || (n == 24)
theorem len_kind (n : Nat) : lenB n = !(kindN n == 0) := by
  unfold lenB kindN
  by_cases h1 : n = 8
  · simp [h1]
  · by_cases h2 : n = 16
    · simp [h2]
    · by_cases h3 : n = 24
      · simp [h3]
      · simp [h1, h2, h3]
theorem nat_int (n m : Nat) : ((n : Int) == (m : Int)) = (n == m) := by
  by_cases h : n = m
  · simp [h]
  · rw [beq_eq_false_iff_ne.mpr h, beq_eq_false_iff_ne.mpr (by omega)]
/-- a whole key's cipher, there or back -/
def cph (l : List UInt8) (back : Bool) (x : List Bool) : List Bool := if back then dec l x else enc l x
theorem cph_len (l : List UInt8) (back : Bool) (x : List Bool) : (cph l back x).length = 64 := by unfold cph; split; exact dec_len _ _; exact enc_len _ _
theorem one_x (k : ByteArray) (x : List Bool) (hx : x.length = 64) (back : Bool) (hk : Hid (k.size = 8)) (w : World) :
    Calls Try.prog 84 #[.string k, .string ⟨(byW x).toArray⟩, .bool back] w fun e w' => e = .returned (.string ⟨(byW (des (ord (sched (bitsS k.data.toList)) back) x)).toArray⟩) ∧ Below w.heap.size w w' := by
  have h := one_ref k ⟨(byW x).toArray⟩ back hk (by rw [szL, byW_len]; rfl) w
  rw [dl, bits_byW x hx] at h
  exact h
set_option maxRecDepth 100000 in
set_option maxHeartbeats 1600000 in
theorem block_one (k : ByteArray) (x : List Bool) (hx : x.length = 64) (back : Bool) (hk : Hid (k.size = 8)) (w : World) :
    Calls Try.prog 63 #[.string k, .string ⟨(byW x).toArray⟩, .bool back] w fun e w' => e = .returned (.string ⟨(byW (cph k.data.toList back x)).toArray⟩) ∧ Below w.heap.size w w' := by
  have O := one_x k x hx back hk
  have e : des (ord (sched (bitsS k.data.toList)) back) x = cph k.data.toList back x := by
    have h8 : k.data.toList.length = 8 := by rw [len_size]; exact hk.out
    have hp : pt k.data.toList 0 = k.data.toList := by rw [pt, Nat.mul_zero, List.drop_zero, List.take_of_length_le (by omega)]
    unfold cph dec enc ord sc
    rw [if_pos h8, if_pos h8, hp]
    cases back <;> rfl
  rw [e] at O
  have q : ((k.size : Int) == 8) = true := beq_iff_eq.mpr (by have := hk.out; omega)
  generalize (byW (cph k.data.toList back x)).toArray = Z at *
  generalize (byW x).toArray = X at *
  clear e hk
  go_enter Try.func63, Try.ntmps63
  go_wp2_with (go_at_call 84; refine (O _).mono ?_; rintro e y ⟨rfl, hy⟩)
  go_ret
  exact ⟨rfl, hy⟩
theorem ext_pt0 (k : ByteArray) (h : 8 ≤ k.size) : (k.extract 0 8).data.toList = pt k.data.toList 0 ∧ (k.extract 0 8).size = 8 := ⟨ext_list k 0, by rw [ByteArray.size_extract]; omega⟩
set_option maxRecDepth 100000 in
set_option maxHeartbeats 800000 in
theorem block_2false (k : ByteArray) (x : List Bool) (hx : x.length = 64) (hk : Hid (k.size = 16)) (w : World) :
    Calls Try.prog 63 #[.string k, .string ⟨(byW x).toArray⟩, .bool false] w fun e w' => e = .returned (.string ⟨(byW (cph k.data.toList false x)).toArray⟩) ∧ Below w.heap.size w w' := by
  have hz := hk.out
  have q8 : ((k.size : Int) == 8) = false := beq_eq_false_iff_ne.mpr (by omega)
  have q16 : ((k.size : Int) == 16) = true := beq_iff_eq.mpr (by omega)
  have i1 : (8 : Int) ≤ (k.size : Int) := by omega
  have i2 : (16 : Int) ≤ (k.size : Int) := by omega
  have i3 : (k.size : Int) ≤ 24 := by omega
  have i4 : ((k.size : Int) - 8).toNat = k.size - 8 := by omega
  have l0 : k.data.toList.length = 16 := by rw [len_size, hz]
  have P1 : ∀ u, Calls Try.prog 84 #[.string (k.extract 0 8), .string ⟨(byW x).toArray⟩, .bool false] u fun e w' => e = .returned (.string ⟨(byW (des (sc k.data.toList 0) x)).toArray⟩) ∧ Below u.heap.size u w' := fun u => by
    have h := one_x (k.extract 0 8) x hx false (by rw [ByteArray.size_extract]; omega : (k.extract 0 8).size = 8) u
    rw [show (k.extract 0 8).data.toList = pt k.data.toList 0 from ext_list k 0] at h
    exact h
  have P2 : ∀ u, Calls Try.prog 84 #[.string (k.extract 8 16), .string ⟨(byW (des (sc k.data.toList 0) x)).toArray⟩, .bool true] u fun e w' => e = .returned (.string ⟨(byW (des (sc k.data.toList 1).reverse (des (sc k.data.toList 0) x))).toArray⟩) ∧ Below u.heap.size u w' := fun u => by
    have h := one_x (k.extract 8 16) (des (sc k.data.toList 0) x) (des_len _ _) true (by rw [ByteArray.size_extract]; omega : (k.extract 8 16).size = 8) u
    rw [show (k.extract 8 16).data.toList = pt k.data.toList 1 from ext_list k 1] at h
    exact h
  have P3 : ∀ u, Calls Try.prog 84 #[.string (k.extract 0 8), .string ⟨(byW (des (sc k.data.toList 1).reverse (des (sc k.data.toList 0) x))).toArray⟩, .bool false] u fun e w' => e = .returned (.string ⟨(byW (des (sc k.data.toList 0) (des (sc k.data.toList 1).reverse (des (sc k.data.toList 0) x)))).toArray⟩) ∧ Below u.heap.size u w' := fun u => by
    have h := one_x (k.extract 0 8) (des (sc k.data.toList 1).reverse (des (sc k.data.toList 0) x)) (des_len _ _) false (by rw [ByteArray.size_extract]; omega : (k.extract 0 8).size = 8) u
    rw [show (k.extract 0 8).data.toList = pt k.data.toList 0 from ext_list k 0] at h
    exact h
  have e : cph k.data.toList false x = (des (sc k.data.toList 0) (des (sc k.data.toList 1).reverse (des (sc k.data.toList 0) x))) := by
    unfold cph dec enc lst
    rw [if_neg (show ¬ k.data.toList.length = 8 by omega)]
    simp [l0]
  rw [e]
  generalize (byW (des (sc k.data.toList 0) (des (sc k.data.toList 1).reverse (des (sc k.data.toList 0) x)))).toArray = X3 at *
  generalize (byW (des (sc k.data.toList 1).reverse (des (sc k.data.toList 0) x))).toArray = X2 at *
  generalize (byW (des (sc k.data.toList 0) x)).toArray = X1 at *
  generalize (byW x).toArray = X0 at *
  clear e l0 hz hk
  go_enter Try.func63, Try.ntmps63
  go_wp2_with (first
    | (go_at_call_of 84 (Value.string ⟨X0⟩); refine (P1 _).mono ?_; rintro e y1 ⟨rfl, h1⟩)
    | (go_at_call_of 84 (Value.string ⟨X1⟩); refine (P2 _).mono ?_; rintro e y2 ⟨rfl, h2⟩)
    | (go_at_call_of 84 (Value.string ⟨X2⟩); refine (P3 _).mono ?_; rintro e y3 ⟨rfl, h3⟩))
  go_ret
  exact ⟨rfl, keepB (keepB h1 h2) h3⟩
set_option maxRecDepth 100000 in
set_option maxHeartbeats 800000 in
theorem block_2true (k : ByteArray) (x : List Bool) (hx : x.length = 64) (hk : Hid (k.size = 16)) (w : World) :
    Calls Try.prog 63 #[.string k, .string ⟨(byW x).toArray⟩, .bool true] w fun e w' => e = .returned (.string ⟨(byW (cph k.data.toList true x)).toArray⟩) ∧ Below w.heap.size w w' := by
  have hz := hk.out
  have q8 : ((k.size : Int) == 8) = false := beq_eq_false_iff_ne.mpr (by omega)
  have q16 : ((k.size : Int) == 16) = true := beq_iff_eq.mpr (by omega)
  have i1 : (8 : Int) ≤ (k.size : Int) := by omega
  have i2 : (16 : Int) ≤ (k.size : Int) := by omega
  have i3 : (k.size : Int) ≤ 24 := by omega
  have i4 : ((k.size : Int) - 8).toNat = k.size - 8 := by omega
  have l0 : k.data.toList.length = 16 := by rw [len_size, hz]
  have P1 : ∀ u, Calls Try.prog 84 #[.string (k.extract 0 8), .string ⟨(byW x).toArray⟩, .bool true] u fun e w' => e = .returned (.string ⟨(byW (des (sc k.data.toList 0).reverse x)).toArray⟩) ∧ Below u.heap.size u w' := fun u => by
    have h := one_x (k.extract 0 8) x hx true (by rw [ByteArray.size_extract]; omega : (k.extract 0 8).size = 8) u
    rw [show (k.extract 0 8).data.toList = pt k.data.toList 0 from ext_list k 0] at h
    exact h
  have P2 : ∀ u, Calls Try.prog 84 #[.string (k.extract 8 16), .string ⟨(byW (des (sc k.data.toList 0).reverse x)).toArray⟩, .bool false] u fun e w' => e = .returned (.string ⟨(byW (des (sc k.data.toList 1) (des (sc k.data.toList 0).reverse x))).toArray⟩) ∧ Below u.heap.size u w' := fun u => by
    have h := one_x (k.extract 8 16) (des (sc k.data.toList 0).reverse x) (des_len _ _) false (by rw [ByteArray.size_extract]; omega : (k.extract 8 16).size = 8) u
    rw [show (k.extract 8 16).data.toList = pt k.data.toList 1 from ext_list k 1] at h
    exact h
  have P3 : ∀ u, Calls Try.prog 84 #[.string (k.extract 0 8), .string ⟨(byW (des (sc k.data.toList 1) (des (sc k.data.toList 0).reverse x))).toArray⟩, .bool true] u fun e w' => e = .returned (.string ⟨(byW (des (sc k.data.toList 0).reverse (des (sc k.data.toList 1) (des (sc k.data.toList 0).reverse x)))).toArray⟩) ∧ Below u.heap.size u w' := fun u => by
    have h := one_x (k.extract 0 8) (des (sc k.data.toList 1) (des (sc k.data.toList 0).reverse x)) (des_len _ _) true (by rw [ByteArray.size_extract]; omega : (k.extract 0 8).size = 8) u
    rw [show (k.extract 0 8).data.toList = pt k.data.toList 0 from ext_list k 0] at h
    exact h
  have e : cph k.data.toList true x = (des (sc k.data.toList 0).reverse (des (sc k.data.toList 1) (des (sc k.data.toList 0).reverse x))) := by
    unfold cph dec enc lst
    rw [if_neg (show ¬ k.data.toList.length = 8 by omega)]
    simp [l0]
  rw [e]
  generalize (byW (des (sc k.data.toList 0).reverse (des (sc k.data.toList 1) (des (sc k.data.toList 0).reverse x)))).toArray = X3 at *
  generalize (byW (des (sc k.data.toList 1) (des (sc k.data.toList 0).reverse x))).toArray = X2 at *
  generalize (byW (des (sc k.data.toList 0).reverse x)).toArray = X1 at *
  generalize (byW x).toArray = X0 at *
  clear e l0 hz hk
  go_enter Try.func63, Try.ntmps63
  go_wp2_with (first
    | (go_at_call_of 84 (Value.string ⟨X0⟩); refine (P1 _).mono ?_; rintro e y1 ⟨rfl, h1⟩)
    | (go_at_call_of 84 (Value.string ⟨X1⟩); refine (P2 _).mono ?_; rintro e y2 ⟨rfl, h2⟩)
    | (go_at_call_of 84 (Value.string ⟨X2⟩); refine (P3 _).mono ?_; rintro e y3 ⟨rfl, h3⟩))
  go_ret
  exact ⟨rfl, keepB (keepB h1 h2) h3⟩
set_option maxRecDepth 100000 in
set_option maxHeartbeats 800000 in
theorem block_3false (k : ByteArray) (x : List Bool) (hx : x.length = 64) (hk : Hid (k.size = 24)) (w : World) :
    Calls Try.prog 63 #[.string k, .string ⟨(byW x).toArray⟩, .bool false] w fun e w' => e = .returned (.string ⟨(byW (cph k.data.toList false x)).toArray⟩) ∧ Below w.heap.size w w' := by
  have hz := hk.out
  have q8 : ((k.size : Int) == 8) = false := beq_eq_false_iff_ne.mpr (by omega)
  have q16 : ((k.size : Int) == 16) = false := beq_eq_false_iff_ne.mpr (by omega)
  have i1 : (8 : Int) ≤ (k.size : Int) := by omega
  have i2 : (16 : Int) ≤ (k.size : Int) := by omega
  have i3 : (k.size : Int) ≤ 24 := by omega
  have i4 : ((k.size : Int) - 8).toNat = k.size - 8 := by omega
  have l0 : k.data.toList.length = 24 := by rw [len_size, hz]
  have P1 : ∀ u, Calls Try.prog 84 #[.string (k.extract 0 8), .string ⟨(byW x).toArray⟩, .bool false] u fun e w' => e = .returned (.string ⟨(byW (des (sc k.data.toList 0) x)).toArray⟩) ∧ Below u.heap.size u w' := fun u => by
    have h := one_x (k.extract 0 8) x hx false (by rw [ByteArray.size_extract]; omega : (k.extract 0 8).size = 8) u
    rw [show (k.extract 0 8).data.toList = pt k.data.toList 0 from ext_list k 0] at h
    exact h
  have P2 : ∀ u, Calls Try.prog 84 #[.string (k.extract 8 16), .string ⟨(byW (des (sc k.data.toList 0) x)).toArray⟩, .bool true] u fun e w' => e = .returned (.string ⟨(byW (des (sc k.data.toList 1).reverse (des (sc k.data.toList 0) x))).toArray⟩) ∧ Below u.heap.size u w' := fun u => by
    have h := one_x (k.extract 8 16) (des (sc k.data.toList 0) x) (des_len _ _) true (by rw [ByteArray.size_extract]; omega : (k.extract 8 16).size = 8) u
    rw [show (k.extract 8 16).data.toList = pt k.data.toList 1 from ext_list k 1] at h
    exact h
  have P3 : ∀ u, Calls Try.prog 84 #[.string (k.extract (k.size - 8) k.size), .string ⟨(byW (des (sc k.data.toList 1).reverse (des (sc k.data.toList 0) x))).toArray⟩, .bool false] u fun e w' => e = .returned (.string ⟨(byW (des (sc k.data.toList 2) (des (sc k.data.toList 1).reverse (des (sc k.data.toList 0) x)))).toArray⟩) ∧ Below u.heap.size u w' := fun u => by
    have h := one_x (k.extract (k.size - 8) k.size) (des (sc k.data.toList 1).reverse (des (sc k.data.toList 0) x)) (des_len _ _) false (by rw [ByteArray.size_extract]; omega : (k.extract (k.size - 8) k.size).size = 8) u
    rw [show (k.extract (k.size - 8) k.size).data.toList = pt k.data.toList 2 from (by rw [hz]; exact ext_list k 2)] at h
    exact h
  have e : cph k.data.toList false x = (des (sc k.data.toList 2) (des (sc k.data.toList 1).reverse (des (sc k.data.toList 0) x))) := by
    unfold cph dec enc lst
    rw [if_neg (show ¬ k.data.toList.length = 8 by omega)]
    simp [l0]
  rw [e]
  generalize (byW (des (sc k.data.toList 2) (des (sc k.data.toList 1).reverse (des (sc k.data.toList 0) x)))).toArray = X3 at *
  generalize (byW (des (sc k.data.toList 1).reverse (des (sc k.data.toList 0) x))).toArray = X2 at *
  generalize (byW (des (sc k.data.toList 0) x)).toArray = X1 at *
  generalize (byW x).toArray = X0 at *
  clear e l0 hz hk
  go_enter Try.func63, Try.ntmps63
  go_wp2_with (first
    | (go_at_call_of 84 (Value.string ⟨X0⟩); refine (P1 _).mono ?_; rintro e y1 ⟨rfl, h1⟩)
    | (go_at_call_of 84 (Value.string ⟨X1⟩); refine (P2 _).mono ?_; rintro e y2 ⟨rfl, h2⟩)
    | (go_at_call_of 84 (Value.string ⟨X2⟩); refine (P3 _).mono ?_; rintro e y3 ⟨rfl, h3⟩))
  go_ret
  exact ⟨rfl, keepB (keepB h1 h2) h3⟩
set_option maxRecDepth 100000 in
set_option maxHeartbeats 800000 in
theorem block_3true (k : ByteArray) (x : List Bool) (hx : x.length = 64) (hk : Hid (k.size = 24)) (w : World) :
    Calls Try.prog 63 #[.string k, .string ⟨(byW x).toArray⟩, .bool true] w fun e w' => e = .returned (.string ⟨(byW (cph k.data.toList true x)).toArray⟩) ∧ Below w.heap.size w w' := by
  have hz := hk.out
  have q8 : ((k.size : Int) == 8) = false := beq_eq_false_iff_ne.mpr (by omega)
  have q16 : ((k.size : Int) == 16) = false := beq_eq_false_iff_ne.mpr (by omega)
  have i1 : (8 : Int) ≤ (k.size : Int) := by omega
  have i2 : (16 : Int) ≤ (k.size : Int) := by omega
  have i3 : (k.size : Int) ≤ 24 := by omega
  have i4 : ((k.size : Int) - 8).toNat = k.size - 8 := by omega
  have l0 : k.data.toList.length = 24 := by rw [len_size, hz]
  have P1 : ∀ u, Calls Try.prog 84 #[.string (k.extract (k.size - 8) k.size), .string ⟨(byW x).toArray⟩, .bool true] u fun e w' => e = .returned (.string ⟨(byW (des (sc k.data.toList 2).reverse x)).toArray⟩) ∧ Below u.heap.size u w' := fun u => by
    have h := one_x (k.extract (k.size - 8) k.size) x hx true (by rw [ByteArray.size_extract]; omega : (k.extract (k.size - 8) k.size).size = 8) u
    rw [show (k.extract (k.size - 8) k.size).data.toList = pt k.data.toList 2 from (by rw [hz]; exact ext_list k 2)] at h
    exact h
  have P2 : ∀ u, Calls Try.prog 84 #[.string (k.extract 8 16), .string ⟨(byW (des (sc k.data.toList 2).reverse x)).toArray⟩, .bool false] u fun e w' => e = .returned (.string ⟨(byW (des (sc k.data.toList 1) (des (sc k.data.toList 2).reverse x))).toArray⟩) ∧ Below u.heap.size u w' := fun u => by
    have h := one_x (k.extract 8 16) (des (sc k.data.toList 2).reverse x) (des_len _ _) false (by rw [ByteArray.size_extract]; omega : (k.extract 8 16).size = 8) u
    rw [show (k.extract 8 16).data.toList = pt k.data.toList 1 from ext_list k 1] at h
    exact h
  have P3 : ∀ u, Calls Try.prog 84 #[.string (k.extract 0 8), .string ⟨(byW (des (sc k.data.toList 1) (des (sc k.data.toList 2).reverse x))).toArray⟩, .bool true] u fun e w' => e = .returned (.string ⟨(byW (des (sc k.data.toList 0).reverse (des (sc k.data.toList 1) (des (sc k.data.toList 2).reverse x)))).toArray⟩) ∧ Below u.heap.size u w' := fun u => by
    have h := one_x (k.extract 0 8) (des (sc k.data.toList 1) (des (sc k.data.toList 2).reverse x)) (des_len _ _) true (by rw [ByteArray.size_extract]; omega : (k.extract 0 8).size = 8) u
    rw [show (k.extract 0 8).data.toList = pt k.data.toList 0 from ext_list k 0] at h
    exact h
  have e : cph k.data.toList true x = (des (sc k.data.toList 0).reverse (des (sc k.data.toList 1) (des (sc k.data.toList 2).reverse x))) := by
    unfold cph dec enc lst
    rw [if_neg (show ¬ k.data.toList.length = 8 by omega)]
    simp [l0]
  rw [e]
  generalize (byW (des (sc k.data.toList 0).reverse (des (sc k.data.toList 1) (des (sc k.data.toList 2).reverse x)))).toArray = X3 at *
  generalize (byW (des (sc k.data.toList 1) (des (sc k.data.toList 2).reverse x))).toArray = X2 at *
  generalize (byW (des (sc k.data.toList 2).reverse x)).toArray = X1 at *
  generalize (byW x).toArray = X0 at *
  clear e l0 hz hk
  go_enter Try.func63, Try.ntmps63
  go_wp2_with (first
    | (go_at_call_of 84 (Value.string ⟨X0⟩); refine (P1 _).mono ?_; rintro e y1 ⟨rfl, h1⟩)
    | (go_at_call_of 84 (Value.string ⟨X1⟩); refine (P2 _).mono ?_; rintro e y2 ⟨rfl, h2⟩)
    | (go_at_call_of 84 (Value.string ⟨X2⟩); refine (P3 _).mono ?_; rintro e y3 ⟨rfl, h3⟩))
  go_ret
  exact ⟨rfl, keepB (keepB h1 h2) h3⟩
end Go.Proofs.Ytciblmdpngnakaa.Rl
/- Turn and Chain, the document's. -/
namespace Go.Proofs.Ytciblmdpngnakaa.Ru
set_option linter.unusedVariables false
open Go.RowKit Pla Cb Wd Nw Bk Eb Et Cc Ch Pm Ro Rl
open Bl (len_size mk_eq)
open Ea (dl szL ext_list cat_mk bits_xorL lastB rowB last_bits last_size row_succ row_size)
open Xo (xorL xorL_len)
theorem block_any (k : ByteArray) (hk : k.size = 8 ∨ k.size = 16 ∨ k.size = 24) (x : List Bool) (hx : x.length = 64) (back : Bool) (w : World) :
    Calls Try.prog 63 #[.string k, .string ⟨(byW x).toArray⟩, .bool back] w fun e w' => e = .returned (.string ⟨(byW (cph k.data.toList back x)).toArray⟩) ∧ Below w.heap.size w w' := by
  rcases hk with h | h | h
  · exact block_one k x hx back h w
  · cases back
    · exact block_2false k x hx h w
    · exact block_2true k x hx h w
  · cases back
    · exact block_3false k x hx h w
    · exact block_3true k x hx h w
theorem piece_eq (s : ByteArray) (j : Nat) (h : 8 * j + 8 ≤ s.size) : s.extract (8 * j) (8 * j + 8) = ⟨(byW (blk s.data.toList j)).toArray⟩ := by
  have e : (s.extract (8 * j) (8 * j + 8)).data.toList = byW (blk s.data.toList j) := by
    rw [ext_list, blk, byW_bits]
    rw [pt, List.length_take, List.length_drop, len_size]; omega
  rw [← e, mk_eq]
def turnB (l : List UInt8) (back : Bool) (s : ByteArray) (j : Nat) : ByteArray := ⟨(outN (fun i => cph l back (blk s.data.toList i)) j).toArray⟩
theorem turn_succ (l : List UInt8) (back : Bool) (s : ByteArray) (j : Nat) : turnB l back s j ++ ⟨(byW (cph l back (blk s.data.toList j))).toArray⟩ = turnB l back s (j + 1) := by rw [turnB, cat_mk, turnB, outN_succ]
theorem turn_size (l : List UInt8) (back : Bool) (s : ByteArray) (j : Nat) : (turnB l back s j).size = 8 * j := by rw [turnB, szL, outN_len]
theorem byW_size (x : List Bool) : (ByteArray.mk (byW x).toArray).size = 8 := by rw [szL, byW_len]
theorem block_piece (k : ByteArray) (hk : k.size = 8 ∨ k.size = 16 ∨ k.size = 24) (s : ByteArray) (j : Nat) (h : 8 * j + 8 ≤ s.size) (back : Bool) (w : World) :
    Calls Try.prog 63 #[.string k, .string (s.extract (8 * j) (8 * j + 8)), .bool back] w fun e w' => e = .returned (.string ⟨(byW (cph k.data.toList back (blk s.data.toList j))).toArray⟩) ∧ Below w.heap.size w w' := by
  rw [piece_eq s j h]
  exact block_any k hk _ (blk_len' s j h) back w
theorem turn_bad (k s : ByteArray) (back : Bool) (h : Hid (s.size % 8 ≠ 0)) (hs : s.size ≤ 1099511627776) (w : World) :
    Calls Try.prog 46 #[.string k, .string s, .bool back] w fun e w' => e = .returned (.tuple #[.string ⟨#[]⟩, .int .i64 31]) ∧ w' = w := by
  have q : ((s.size : Int) % 8 != 0) = true := by have := h.out; simp only [bne_iff_ne]; omega
  go_enter Try.func46, Try.ntmps46
  go_wp2
  exact bodyPost_ret (v := .tuple #[.string ⟨#[]⟩, .int .i64 31]) (by simp [results, Try.results46, go_sem]) rfl ⟨rfl, rfl⟩
set_option maxRecDepth 100000 in
set_option maxHeartbeats 1600000 in
theorem turn_ref (k s : ByteArray) (back : Bool) (hk : k.size = 8 ∨ k.size = 16 ∨ k.size = 24) (N : Nat) (hN : Hid (s.size = 8 * N)) (hN2 : N ≤ 1000) (w : World) :
    Calls Try.prog 46 #[.string k, .string s, .bool back] w fun e w' => e = .returned (.tuple #[.string (turnB k.data.toList back s N), .int .i64 0]) ∧ Below w.heap.size w w' := by
  have q : ((s.size : Int) % 8 != 0) = false := by have := hN.out; simp only [bne_eq_false_iff_eq]; omega
  have hkH : Hid (k.size = 8 ∨ k.size = 16 ∨ k.size = 24) := hk
  clear hk
  go_enter Try.func46, Try.ntmps46
  go_wp2
  go_loopw [8, 9] (fun v c wr => ∃ j : Nat, j ≤ N ∧ v = .string (turnB k.data.toList back s j) ∧ c = .int .i64 (8 * (j : Int)) ∧ Below w.heap.size w wr) (fun _ c _ => 8 * N + 8 - (intOf c).toNat)
  case atStart => exact ⟨0, Nat.zero_le _, rfl, rfl, Below.refl _ _⟩
  case round =>
    obtain ⟨j, hj, rfl, rfl, hb⟩ := hrel
    have eN := hN.out
    by_cases hlt : j < N
    · have q0 : (0 : Int) ≤ 8 * (j : Int) := by omega
      have q1 : 8 * (j : Int) < (s.size : Int) := by omega
      have q2 : 8 * (j : Int) + 8 ≤ (s.size : Int) := by omega
      have q3 : (s.size : Int) ≤ 8000 := by omega
      have B1 := fun u => block_piece k hkH.out s j (by omega) back u
      have HN : Hid (turnB k.data.toList back s j ++ ⟨(byW (cph k.data.toList back (blk s.data.toList j))).toArray⟩ = turnB k.data.toList back s (j + 1)) := turn_succ _ _ _ _
      have c1 : ¬ 9223372036854775807 < (turnB k.data.toList back s j).size + ((byW (cph k.data.toList back (blk s.data.toList j))).toArray).size := by rw [turn_size]; have := byW_size (cph k.data.toList back (blk s.data.toList j)); have h2 : ((byW (cph k.data.toList back (blk s.data.toList j))).toArray).size = 8 := this; omega
      have hH : Hid (8 * (j + 1) ≤ 8 * N) := (by omega : 8 * (j + 1) ≤ 8 * N)
      clear eN hkH
      generalize (byW (cph k.data.toList back (blk s.data.toList j))).toArray = Z at *
      generalize turnB k.data.toList back s j = T at *
      go_wp2_with (go_at_call 63; refine (B1 _).mono ?_; rintro e y ⟨rfl, hy⟩)
      exact ⟨⟨j + 1, hlt, by rw [HN.out], by congr 1, keepB hb hy⟩, by have := hH.out; simp only [intOf]; omega⟩
    · obtain rfl : j = N := by omega
      have q1 : ¬ 8 * (j : Int) < (s.size : Int) := by omega
      clear eN hkH
      go_wp2
      exact bodyPost_ret (v := .tuple #[.string (turnB k.data.toList back s j), .int .i64 0]) (by simp [results, Try.results46, go_sem]) rfl ⟨rfl, hb⟩
end Go.Proofs.Ytciblmdpngnakaa.Ru
