/- The document's block under a whole key; Turn, Chain, Length. -/
import Derived.Test.YtciblmdpngnakaaRo
import Derived.Test.YtciblmdpngnakaaCh
import Derived.Test.YtciblmdpngnakaaEa
namespace Go.Proofs.Ytciblmdpngnakaa.Rl
set_option linter.unusedVariables false
open Go.RowKit Pla Cb Wd Nw Bk Eb Et Cc Ch Pm Ro
open Bl (len_size mk_eq)
open Ea (dl szL ext_list cat_mk bits_xorL)
open Xo (xorL xorL_len)
def lenB (n : Nat) : Bool := (n == 8) || (n == 16) || (n == 24)
theorem len_kind (n : Nat) : lenB n = !(kindN n == 0) := by
  unfold lenB kindN
  by_cases h1 : n = 8
  · simp [h1]
  · by_cases h2 : n = 16
    · simp [h2]
    · by_cases h3 : n = 24
      · simp [h3]
      · simp [h1, h2, h3]
theorem nat_int (n m : Nat) : ((n : Int) == (m : Int)) = (n == m) := by
  by_cases h : n = m
  · simp [h]
  · rw [beq_eq_false_iff_ne.mpr h, beq_eq_false_iff_ne.mpr (by omega)]
/-- a whole key's cipher, there or back -/
def cph (l : List UInt8) (back : Bool) (x : List Bool) : List Bool := if back then dec l x else enc l x
theorem cph_len (l : List UInt8) (back : Bool) (x : List Bool) : (cph l back x).length = 64 := by unfold cph; split; exact dec_len _ _; exact enc_len _ _
theorem one_x (k : ByteArray) (x : List Bool) (hx : x.length = 64) (back : Bool) (hk : Hid (k.size = 8)) (w : World) :
    Calls Try.prog 84 #[.string k, .string ⟨(byW x).toArray⟩, .bool back] w fun e w' => e = .returned (.string ⟨(byW (des (ord (sched (bitsS k.data.toList)) back) x)).toArray⟩) ∧ Below w.heap.size w w' := by
  have h := one_ref k ⟨(byW x).toArray⟩ back hk (by rw [szL, byW_len]; rfl) w
  rw [dl, bits_byW x hx] at h
  exact h
set_option maxRecDepth 100000 in
set_option maxHeartbeats 1600000 in
theorem block_one (k : ByteArray) (x : List Bool) (hx : x.length = 64) (back : Bool) (hk : Hid (k.size = 8)) (w : World) :
    Calls Try.prog 63 #[.string k, .string ⟨(byW x).toArray⟩, .bool back] w fun e w' => e = .returned (.string ⟨(byW (cph k.data.toList back x)).toArray⟩) ∧ Below w.heap.size w w' := by
  have O := one_x k x hx back hk
  have e : des (ord (sched (bitsS k.data.toList)) back) x = cph k.data.toList back x := by
    have h8 : k.data.toList.length = 8 := by rw [len_size]; exact hk.out
    have hp : pt k.data.toList 0 = k.data.toList := by rw [pt, Nat.mul_zero, List.drop_zero, List.take_of_length_le (by omega)]
    unfold cph dec enc ord sc
    rw [if_pos h8, if_pos h8, hp]
    cases back <;> rfl
  rw [e] at O
  have q : ((k.size : Int) == 8) = true := beq_iff_eq.mpr (by have := hk.out; omega)
  generalize (byW (cph k.data.toList back x)).toArray = Z at *
  generalize (byW x).toArray = X at *
  clear e hk
  go_enter Try.func63, Try.ntmps63
  go_wp2_with (go_at_call 84; refine (O _).mono ?_; rintro e y ⟨rfl, hy⟩)
  go_ret
  exact ⟨rfl, hy⟩
theorem ext_pt0 (k : ByteArray) (h : 8 ≤ k.size) : (k.extract 0 8).data.toList = pt k.data.toList 0 ∧ (k.extract 0 8).size = 8 := ⟨ext_list k 0, by rw [ByteArray.size_extract]; omega⟩
set_option maxRecDepth 100000 in
set_option maxHeartbeats 800000 in
theorem block_2false (k : ByteArray) (x : List Bool) (hx : x.length = 64) (hk : Hid (k.size = 16)) (w : World) :
    Calls Try.prog 63 #[.string k, .string ⟨(byW x).toArray⟩, .bool false] w fun e w' => e = .returned (.string ⟨(byW (cph k.data.toList false x)).toArray⟩) ∧ Below w.heap.size w w' := by
  have hz := hk.out
  have q8 : ((k.size : Int) == 8) = false := beq_eq_false_iff_ne.mpr (by omega)
  have q16 : ((k.size : Int) == 16) = true := beq_iff_eq.mpr (by omega)
  have i1 : (8 : Int) ≤ (k.size : Int) := by omega
  have i2 : (16 : Int) ≤ (k.size : Int) := by omega
  have i3 : (k.size : Int) ≤ 24 := by omega
  have i4 : ((k.size : Int) - 8).toNat = k.size - 8 := by omega
  have l0 : k.data.toList.length = 16 := by rw [len_size, hz]
  have P1 : ∀ u, Calls Try.prog 84 #[.string (k.extract 0 8), .string ⟨(byW x).toArray⟩, .bool false] u fun e w' => e = .returned (.string ⟨(byW (des (sc k.data.toList 0) x)).toArray⟩) ∧ Below u.heap.size u w' := fun u => by
    have h := one_x (k.extract 0 8) x hx false (by rw [ByteArray.size_extract]; omega : (k.extract 0 8).size = 8) u
    rw [show (k.extract 0 8).data.toList = pt k.data.toList 0 from ext_list k 0] at h
    exact h
  have P2 : ∀ u, Calls Try.prog 84 #[.string (k.extract 8 16), .string ⟨(byW (des (sc k.data.toList 0) x)).toArray⟩, .bool true] u fun e w' => e = .returned (.string ⟨(byW (des (sc k.data.toList 1).reverse (des (sc k.data.toList 0) x))).toArray⟩) ∧ Below u.heap.size u w' := fun u => by
    have h := one_x (k.extract 8 16) (des (sc k.data.toList 0) x) (des_len _ _) true (by rw [ByteArray.size_extract]; omega : (k.extract 8 16).size = 8) u
    rw [show (k.extract 8 16).data.toList = pt k.data.toList 1 from ext_list k 1] at h
    exact h
  have P3 : ∀ u, Calls Try.prog 84 #[.string (k.extract 0 8), .string ⟨(byW (des (sc k.data.toList 1).reverse (des (sc k.data.toList 0) x))).toArray⟩, .bool false] u fun e w' => e = .returned (.string ⟨(byW (des (sc k.data.toList 0) (des (sc k.data.toList 1).reverse (des (sc k.data.toList 0) x)))).toArray⟩) ∧ Below u.heap.size u w' := fun u => by
    have h := one_x (k.extract 0 8) (des (sc k.data.toList 1).reverse (des (sc k.data.toList 0) x)) (des_len _ _) false (by rw [ByteArray.size_extract]; omega : (k.extract 0 8).size = 8) u
    rw [show (k.extract 0 8).data.toList = pt k.data.toList 0 from ext_list k 0] at h
    exact h
  have e : cph k.data.toList false x = (des (sc k.data.toList 0) (des (sc k.data.toList 1).reverse (des (sc k.data.toList 0) x))) := by
    unfold cph dec enc lst
    rw [if_neg (show ¬ k.data.toList.length = 8 by omega)]
    simp [l0]
  rw [e]
  generalize (byW (des (sc k.data.toList 0) (des (sc k.data.toList 1).reverse (des (sc k.data.toList 0) x)))).toArray = X3 at *
  generalize (byW (des (sc k.data.toList 1).reverse (des (sc k.data.toList 0) x))).toArray = X2 at *
  generalize (byW (des (sc k.data.toList 0) x)).toArray = X1 at *
  generalize (byW x).toArray = X0 at *
  clear e l0 hz hk
  go_enter Try.func63, Try.ntmps63
  go_wp2_with (first
    | (go_at_call_of 84 (Value.string ⟨X0⟩); refine (P1 _).mono ?_; rintro e y1 ⟨rfl, h1⟩)
    | (go_at_call_of 84 (Value.string ⟨X1⟩); refine (P2 _).mono ?_; rintro e y2 ⟨rfl, h2⟩)
    | (go_at_call_of 84 (Value.string ⟨X2⟩); refine (P3 _).mono ?_; rintro e y3 ⟨rfl, h3⟩))
  go_ret
  exact ⟨rfl, keepB (keepB h1 h2) h3⟩
set_option maxRecDepth 100000 in
set_option maxHeartbeats 800000 in
theorem block_2true (k : ByteArray) (x : List Bool) (hx : x.length = 64) (hk : Hid (k.size = 16)) (w : World) :
    Calls Try.prog 63 #[.string k, .string ⟨(byW x).toArray⟩, .bool true] w fun e w' => e = .returned (.string ⟨(byW (cph k.data.toList true x)).toArray⟩) ∧ Below w.heap.size w w' := by
  have hz := hk.out
  have q8 : ((k.size : Int) == 8) = false := beq_eq_false_iff_ne.mpr (by omega)
  have q16 : ((k.size : Int) == 16) = true := beq_iff_eq.mpr (by omega)
  have i1 : (8 : Int) ≤ (k.size : Int) := by omega
  have i2 : (16 : Int) ≤ (k.size : Int) := by omega
  have i3 : (k.size : Int) ≤ 24 := by omega
  have i4 : ((k.size : Int) - 8).toNat = k.size - 8 := by omega
  have l0 : k.data.toList.length = 16 := by rw [len_size, hz]
  have P1 : ∀ u, Calls Try.prog 84 #[.string (k.extract 0 8), .string ⟨(byW x).toArray⟩, .bool true] u fun e w' => e = .returned (.string ⟨(byW (des (sc k.data.toList 0).reverse x)).toArray⟩) ∧ Below u.heap.size u w' := fun u => by
    have h := one_x (k.extract 0 8) x hx true (by rw [ByteArray.size_extract]; omega : (k.extract 0 8).size = 8) u
    rw [show (k.extract 0 8).data.toList = pt k.data.toList 0 from ext_list k 0] at h
    exact h
  have P2 : ∀ u, Calls Try.prog 84 #[.string (k.extract 8 16), .string ⟨(byW (des (sc k.data.toList 0).reverse x)).toArray⟩, .bool false] u fun e w' => e = .returned (.string ⟨(byW (des (sc k.data.toList 1) (des (sc k.data.toList 0).reverse x))).toArray⟩) ∧ Below u.heap.size u w' := fun u => by
    have h := one_x (k.extract 8 16) (des (sc k.data.toList 0).reverse x) (des_len _ _) false (by rw [ByteArray.size_extract]; omega : (k.extract 8 16).size = 8) u
    rw [show (k.extract 8 16).data.toList = pt k.data.toList 1 from ext_list k 1] at h
    exact h
  have P3 : ∀ u, Calls Try.prog 84 #[.string (k.extract 0 8), .string ⟨(byW (des (sc k.data.toList 1) (des (sc k.data.toList 0).reverse x))).toArray⟩, .bool true] u fun e w' => e = .returned (.string ⟨(byW (des (sc k.data.toList 0).reverse (des (sc k.data.toList 1) (des (sc k.data.toList 0).reverse x)))).toArray⟩) ∧ Below u.heap.size u w' := fun u => by
    have h := one_x (k.extract 0 8) (des (sc k.data.toList 1) (des (sc k.data.toList 0).reverse x)) (des_len _ _) true (by rw [ByteArray.size_extract]; omega : (k.extract 0 8).size = 8) u
    rw [show (k.extract 0 8).data.toList = pt k.data.toList 0 from ext_list k 0] at h
    exact h
  have e : cph k.data.toList true x = (des (sc k.data.toList 0).reverse (des (sc k.data.toList 1) (des (sc k.data.toList 0).reverse x))) := by
    unfold cph dec enc lst
    rw [if_neg (show ¬ k.data.toList.length = 8 by omega)]
    simp [l0]
  rw [e]
  generalize (byW (des (sc k.data.toList 0).reverse (des (sc k.data.toList 1) (des (sc k.data.toList 0).reverse x)))).toArray = X3 at *
  generalize (byW (des (sc k.data.toList 1) (des (sc k.data.toList 0).reverse x))).toArray = X2 at *
  generalize (byW (des (sc k.data.toList 0).reverse x)).toArray = X1 at *
  generalize (byW x).toArray = X0 at *
  clear e l0 hz hk
  go_enter Try.func63, Try.ntmps63
  go_wp2_with (first
    | (go_at_call_of 84 (Value.string ⟨X0⟩); refine (P1 _).mono ?_; rintro e y1 ⟨rfl, h1⟩)
    | (go_at_call_of 84 (Value.string ⟨X1⟩); refine (P2 _).mono ?_; rintro e y2 ⟨rfl, h2⟩)
    | (go_at_call_of 84 (Value.string ⟨X2⟩); refine (P3 _).mono ?_; rintro e y3 ⟨rfl, h3⟩))
  go_ret
  exact ⟨rfl, keepB (keepB h1 h2) h3⟩
set_option maxRecDepth 100000 in
set_option maxHeartbeats 800000 in
theorem block_3false (k : ByteArray) (x : List Bool) (hx : x.length = 64) (hk : Hid (k.size = 24)) (w : World) :
    Calls Try.prog 63 #[.string k, .string ⟨(byW x).toArray⟩, .bool false] w fun e w' => e = .returned (.string ⟨(byW (cph k.data.toList false x)).toArray⟩) ∧ Below w.heap.size w w' := by
  have hz := hk.out
  have q8 : ((k.size : Int) == 8) = false := beq_eq_false_iff_ne.mpr (by omega)
  have q16 : ((k.size : Int) == 16) = false := beq_eq_false_iff_ne.mpr (by omega)
  have i1 : (8 : Int) ≤ (k.size : Int) := by omega
  have i2 : (16 : Int) ≤ (k.size : Int) := by omega
  have i3 : (k.size : Int) ≤ 24 := by omega
  have i4 : ((k.size : Int) - 8).toNat = k.size - 8 := by omega
  have l0 : k.data.toList.length = 24 := by rw [len_size, hz]
  have P1 : ∀ u, Calls Try.prog 84 #[.string (k.extract 0 8), .string ⟨(byW x).toArray⟩, .bool false] u fun e w' => e = .returned (.string ⟨(byW (des (sc k.data.toList 0) x)).toArray⟩) ∧ Below u.heap.size u w' := fun u => by
    have h := one_x (k.extract 0 8) x hx false (by rw [ByteArray.size_extract]; omega : (k.extract 0 8).size = 8) u
    rw [show (k.extract 0 8).data.toList = pt k.data.toList 0 from ext_list k 0] at h
    exact h
  have P2 : ∀ u, Calls Try.prog 84 #[.string (k.extract 8 16), .string ⟨(byW (des (sc k.data.toList 0) x)).toArray⟩, .bool true] u fun e w' => e = .returned (.string ⟨(byW (des (sc k.data.toList 1).reverse (des (sc k.data.toList 0) x))).toArray⟩) ∧ Below u.heap.size u w' := fun u => by
    have h := one_x (k.extract 8 16) (des (sc k.data.toList 0) x) (des_len _ _) true (by rw [ByteArray.size_extract]; omega : (k.extract 8 16).size = 8) u
    rw [show (k.extract 8 16).data.toList = pt k.data.toList 1 from ext_list k 1] at h
    exact h
  have P3 : ∀ u, Calls Try.prog 84 #[.string (k.extract (k.size - 8) k.size), .string ⟨(byW (des (sc k.data.toList 1).reverse (des (sc k.data.toList 0) x))).toArray⟩, .bool false] u fun e w' => e = .returned (.string ⟨(byW (des (sc k.data.toList 2) (des (sc k.data.toList 1).reverse (des (sc k.data.toList 0) x)))).toArray⟩) ∧ Below u.heap.size u w' := fun u => by
    have h := one_x (k.extract (k.size - 8) k.size) (des (sc k.data.toList 1).reverse (des (sc k.data.toList 0) x)) (des_len _ _) false (by rw [ByteArray.size_extract]; omega : (k.extract (k.size - 8) k.size).size = 8) u
    rw [show (k.extract (k.size - 8) k.size).data.toList = pt k.data.toList 2 from (by rw [hz]; exact ext_list k 2)] at h
    exact h
  have e : cph k.data.toList false x = (des (sc k.data.toList 2) (des (sc k.data.toList 1).reverse (des (sc k.data.toList 0) x))) := by
    unfold cph dec enc lst
    rw [if_neg (show ¬ k.data.toList.length = 8 by omega)]
    simp [l0]
  rw [e]
  generalize (byW (des (sc k.data.toList 2) (des (sc k.data.toList 1).reverse (des (sc k.data.toList 0) x)))).toArray = X3 at *
  generalize (byW (des (sc k.data.toList 1).reverse (des (sc k.data.toList 0) x))).toArray = X2 at *
  generalize (byW (des (sc k.data.toList 0) x)).toArray = X1 at *
  generalize (byW x).toArray = X0 at *
  clear e l0 hz hk
  go_enter Try.func63, Try.ntmps63
  go_wp2_with (first
    | (go_at_call_of 84 (Value.string ⟨X0⟩); refine (P1 _).mono ?_; rintro e y1 ⟨rfl, h1⟩)
    | (go_at_call_of 84 (Value.string ⟨X1⟩); refine (P2 _).mono ?_; rintro e y2 ⟨rfl, h2⟩)
    | (go_at_call_of 84 (Value.string ⟨X2⟩); refine (P3 _).mono ?_; rintro e y3 ⟨rfl, h3⟩))
  go_ret
  exact ⟨rfl, keepB (keepB h1 h2) h3⟩
set_option maxRecDepth 100000 in
set_option maxHeartbeats 800000 in
theorem block_3true (k : ByteArray) (x : List Bool) (hx : x.length = 64) (hk : Hid (k.size = 24)) (w : World) :
    Calls Try.prog 63 #[.string k, .string ⟨(byW x).toArray⟩, .bool true] w fun e w' => e = .returned (.string ⟨(byW (cph k.data.toList true x)).toArray⟩) ∧ Below w.heap.size w w' := by
  have hz := hk.out
  have q8 : ((k.size : Int) == 8) = false := beq_eq_false_iff_ne.mpr (by omega)
  have q16 : ((k.size : Int) == 16) = false := beq_eq_false_iff_ne.mpr (by omega)
  have i1 : (8 : Int) ≤ (k.size : Int) := by omega
  have i2 : (16 : Int) ≤ (k.size : Int) := by omega
  have i3 : (k.size : Int) ≤ 24 := by omega
  have i4 : ((k.size : Int) - 8).toNat = k.size - 8 := by omega
  have l0 : k.data.toList.length = 24 := by rw [len_size, hz]
  have P1 : ∀ u, Calls Try.prog 84 #[.string (k.extract (k.size - 8) k.size), .string ⟨(byW x).toArray⟩, .bool true] u fun e w' => e = .returned (.string ⟨(byW (des (sc k.data.toList 2).reverse x)).toArray⟩) ∧ Below u.heap.size u w' := fun u => by
    have h := one_x (k.extract (k.size - 8) k.size) x hx true (by rw [ByteArray.size_extract]; omega : (k.extract (k.size - 8) k.size).size = 8) u
    rw [show (k.extract (k.size - 8) k.size).data.toList = pt k.data.toList 2 from (by rw [hz]; exact ext_list k 2)] at h
    exact h
  have P2 : ∀ u, Calls Try.prog 84 #[.string (k.extract 8 16), .string ⟨(byW (des (sc k.data.toList 2).reverse x)).toArray⟩, .bool false] u fun e w' => e = .returned (.string ⟨(byW (des (sc k.data.toList 1) (des (sc k.data.toList 2).reverse x))).toArray⟩) ∧ Below u.heap.size u w' := fun u => by
    have h := one_x (k.extract 8 16) (des (sc k.data.toList 2).reverse x) (des_len _ _) false (by rw [ByteArray.size_extract]; omega : (k.extract 8 16).size = 8) u
    rw [show (k.extract 8 16).data.toList = pt k.data.toList 1 from ext_list k 1] at h
    exact h
  have P3 : ∀ u, Calls Try.prog 84 #[.string (k.extract 0 8), .string ⟨(byW (des (sc k.data.toList 1) (des (sc k.data.toList 2).reverse x))).toArray⟩, .bool true] u fun e w' => e = .returned (.string ⟨(byW (des (sc k.data.toList 0).reverse (des (sc k.data.toList 1) (des (sc k.data.toList 2).reverse x)))).toArray⟩) ∧ Below u.heap.size u w' := fun u => by
    have h := one_x (k.extract 0 8) (des (sc k.data.toList 1) (des (sc k.data.toList 2).reverse x)) (des_len _ _) true (by rw [ByteArray.size_extract]; omega : (k.extract 0 8).size = 8) u
    rw [show (k.extract 0 8).data.toList = pt k.data.toList 0 from ext_list k 0] at h
    exact h
  have e : cph k.data.toList true x = (des (sc k.data.toList 0).reverse (des (sc k.data.toList 1) (des (sc k.data.toList 2).reverse x))) := by
    unfold cph dec enc lst
    rw [if_neg (show ¬ k.data.toList.length = 8 by omega)]
    simp [l0]
  rw [e]
  generalize (byW (des (sc k.data.toList 0).reverse (des (sc k.data.toList 1) (des (sc k.data.toList 2).reverse x)))).toArray = X3 at *
  generalize (byW (des (sc k.data.toList 1) (des (sc k.data.toList 2).reverse x))).toArray = X2 at *
  generalize (byW (des (sc k.data.toList 2).reverse x)).toArray = X1 at *
  generalize (byW x).toArray = X0 at *
  clear e l0 hz hk
  go_enter Try.func63, Try.ntmps63
  go_wp2_with (first
    | (go_at_call_of 84 (Value.string ⟨X0⟩); refine (P1 _).mono ?_; rintro e y1 ⟨rfl, h1⟩)
    | (go_at_call_of 84 (Value.string ⟨X1⟩); refine (P2 _).mono ?_; rintro e y2 ⟨rfl, h2⟩)
    | (go_at_call_of 84 (Value.string ⟨X2⟩); refine (P3 _).mono ?_; rintro e y3 ⟨rfl, h3⟩))
  go_ret
  exact ⟨rfl, keepB (keepB h1 h2) h3⟩
end Go.Proofs.Ytciblmdpngnakaa.Rl
