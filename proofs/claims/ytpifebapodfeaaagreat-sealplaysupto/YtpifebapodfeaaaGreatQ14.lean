import Derived.Test.YtpifebapodfeaaaGreatQ13
import Derived.Test.YtpifebapodfeaaaGreatQ05
import Derived.Test.YtpifebapodfeaaaGreatQ06
/- The document's block under a whole key; Turn, Chain, Length. -/
namespace Go.Proofs.YtpifebapodfeaaaGreat.Rl
set_option linter.unusedVariables false
open Go.RowKit Pla Cb Wd Nw Bk Eb Et Cc Ch Pm Ro
open Bl (len_size mk_eq)
open Ea (dl szL ext_list cat_mk bits_xorL)
open Xo (xorL xorL_len xor_ref)
def lenB (n : Nat) : Bool := (n == 8) || (n == 16) || (n == 24)
theorem len_kind (n : Nat) : lenB n = !(kindN n == 0) := by
  unfold lenB kindN
  by_cases h1 : n = 8
  · simp [h1]
  · by_cases h2 : n = 16
    · simp [h2]
    · by_cases h3 : n = 24
      · simp [h3]
      · simp [h1, h2, h3]
theorem nat_int (n m : Nat) : ((n : Int) == (m : Int)) = (n == m) := by
  by_cases h : n = m
  · simp [h]
  · rw [beq_eq_false_iff_ne.mpr h, beq_eq_false_iff_ne.mpr (by omega)]
theorem length_ref (s : ByteArray) (w : World) : Calls Tryz.prog 70 #[.string s] w fun e w' => e = .returned (.bool (lenB s.size)) ∧ w' = w := by
  have e1 : ((s.size : Int) == 8) = (s.size == 8) := nat_int s.size 8
  have e2 : ((s.size : Int) == 16) = (s.size == 16) := nat_int s.size 16
  have e3 : ((s.size : Int) == 24) = (s.size == 24) := nat_int s.size 24
  unfold lenB
  rw [← e1, ← e2, ← e3]
  cases h1 : ((s.size : Int) == 8) <;> cases h2 : ((s.size : Int) == 16) <;> cases h3 : ((s.size : Int) == 24)
  all_goals
    clear e1 e2 e3
    go_enter Tryz.func70, Tryz.ntmps70
    go_wp2
    go_ret
    exact ⟨rfl, rfl⟩
/-- a whole key's cipher, there or back -/
def cph (l : List UInt8) (back : Bool) (x : List Bool) : List Bool := if back then dec l x else enc l x
theorem cph_len (l : List UInt8) (back : Bool) (x : List Bool) : (cph l back x).length = 64 := by unfold cph; split; exact dec_len _ _; exact enc_len _ _
theorem one_x (k : ByteArray) (x : List Bool) (hx : x.length = 64) (back : Bool) (hk : Hid (k.size = 8)) (w : World) :
    Calls Tryz.prog 84 #[.string k, .string ⟨(byW x).toArray⟩, .bool back] w fun e w' => e = .returned (.string ⟨(byW (des (ord (sched (bitsS k.data.toList)) back) x)).toArray⟩) ∧ Below w.heap.size w w' := by
  have h := one_ref k ⟨(byW x).toArray⟩ back hk (by rw [szL, byW_len]; rfl) w
  rw [dl, bits_byW x hx] at h
  exact h
set_option maxRecDepth 100000 in
set_option maxHeartbeats 1600000 in
theorem block_one (k : ByteArray) (x : List Bool) (hx : x.length = 64) (back : Bool) (hk : Hid (k.size = 8)) (w : World) :
    Calls Tryz.prog 65 #[.string k, .string ⟨(byW x).toArray⟩, .bool back] w fun e w' => e = .returned (.string ⟨(byW (cph k.data.toList back x)).toArray⟩) ∧ Below w.heap.size w w' := by
  have O := one_x k x hx back hk
  have e : des (ord (sched (bitsS k.data.toList)) back) x = cph k.data.toList back x := by
    have h8 : k.data.toList.length = 8 := by rw [len_size]; exact hk.out
    have hp : pt k.data.toList 0 = k.data.toList := by rw [pt, Nat.mul_zero, List.drop_zero, List.take_of_length_le (by omega)]
    unfold cph dec enc ord sc
    rw [if_pos h8, if_pos h8, hp]
    cases back <;> rfl
  rw [e] at O
  have q : ((k.size : Int) == 8) = true := beq_iff_eq.mpr (by have := hk.out; omega)
  generalize (byW (cph k.data.toList back x)).toArray = Z at *
  generalize (byW x).toArray = X at *
  clear e hk
  go_enter Tryz.func65, Tryz.ntmps65
  go_wp2_with (go_at_call 84; refine (O _).mono ?_; rintro e y ⟨rfl, hy⟩)
  go_ret
  exact ⟨rfl, hy⟩
theorem ext_pt0 (k : ByteArray) (h : 8 ≤ k.size) : (k.extract 0 8).data.toList = pt k.data.toList 0 ∧ (k.extract 0 8).size = 8 := ⟨ext_list k 0, by rw [ByteArray.size_extract]; omega⟩
set_option maxRecDepth 100000 in
set_option maxHeartbeats 800000 in
theorem block_2false (k : ByteArray) (x : List Bool) (hx : x.length = 64) (hk : Hid (k.size = 16)) (w : World) :
    Calls Tryz.prog 65 #[.string k, .string ⟨(byW x).toArray⟩, .bool false] w fun e w' => e = .returned (.string ⟨(byW (cph k.data.toList false x)).toArray⟩) ∧ Below w.heap.size w w' := by
  have hz := hk.out
  have q8 : ((k.size : Int) == 8) = false := beq_eq_false_iff_ne.mpr (by omega)
  have q16 : ((k.size : Int) == 16) = true := beq_iff_eq.mpr (by omega)
  have i1 : (8 : Int) ≤ (k.size : Int) := by omega
  have i2 : (16 : Int) ≤ (k.size : Int) := by omega
  have i3 : (k.size : Int) ≤ 24 := by omega
  have i4 : ((k.size : Int) - 8).toNat = k.size - 8 := by omega
  have l0 : k.data.toList.length = 16 := by rw [len_size, hz]
  have P1 : ∀ u, Calls Tryz.prog 84 #[.string (k.extract 0 8), .string ⟨(byW x).toArray⟩, .bool false] u fun e w' => e = .returned (.string ⟨(byW (des (sc k.data.toList 0) x)).toArray⟩) ∧ Below u.heap.size u w' := fun u => by
    have h := one_x (k.extract 0 8) x hx false (by rw [ByteArray.size_extract]; omega : (k.extract 0 8).size = 8) u
    rw [show (k.extract 0 8).data.toList = pt k.data.toList 0 from ext_list k 0] at h
    exact h
  have P2 : ∀ u, Calls Tryz.prog 84 #[.string (k.extract 8 16), .string ⟨(byW (des (sc k.data.toList 0) x)).toArray⟩, .bool true] u fun e w' => e = .returned (.string ⟨(byW (des (sc k.data.toList 1).reverse (des (sc k.data.toList 0) x))).toArray⟩) ∧ Below u.heap.size u w' := fun u => by
    have h := one_x (k.extract 8 16) (des (sc k.data.toList 0) x) (des_len _ _) true (by rw [ByteArray.size_extract]; omega : (k.extract 8 16).size = 8) u
    rw [show (k.extract 8 16).data.toList = pt k.data.toList 1 from ext_list k 1] at h
    exact h
  have P3 : ∀ u, Calls Tryz.prog 84 #[.string (k.extract 0 8), .string ⟨(byW (des (sc k.data.toList 1).reverse (des (sc k.data.toList 0) x))).toArray⟩, .bool false] u fun e w' => e = .returned (.string ⟨(byW (des (sc k.data.toList 0) (des (sc k.data.toList 1).reverse (des (sc k.data.toList 0) x)))).toArray⟩) ∧ Below u.heap.size u w' := fun u => by
    have h := one_x (k.extract 0 8) (des (sc k.data.toList 1).reverse (des (sc k.data.toList 0) x)) (des_len _ _) false (by rw [ByteArray.size_extract]; omega : (k.extract 0 8).size = 8) u
    rw [show (k.extract 0 8).data.toList = pt k.data.toList 0 from ext_list k 0] at h
    exact h
  have e : cph k.data.toList false x = (des (sc k.data.toList 0) (des (sc k.data.toList 1).reverse (des (sc k.data.toList 0) x))) := by
    unfold cph dec enc lst
    rw [if_neg (show ¬ k.data.toList.length = 8 by omega)]
    simp [l0]
  rw [e]
  generalize (byW (des (sc k.data.toList 0) (des (sc k.data.toList 1).reverse (des (sc k.data.toList 0) x)))).toArray = X3 at *
  generalize (byW (des (sc k.data.toList 1).reverse (des (sc k.data.toList 0) x))).toArray = X2 at *
  generalize (byW (des (sc k.data.toList 0) x)).toArray = X1 at *
  generalize (byW x).toArray = X0 at *
  clear e l0 hz hk
  go_enter Tryz.func65, Tryz.ntmps65
  go_wp2_with (first
    | (go_at_call_of 84 (Value.string ⟨X0⟩); refine (P1 _).mono ?_; rintro e y1 ⟨rfl, h1⟩)
    | (go_at_call_of 84 (Value.string ⟨X1⟩); refine (P2 _).mono ?_; rintro e y2 ⟨rfl, h2⟩)
    | (go_at_call_of 84 (Value.string ⟨X2⟩); refine (P3 _).mono ?_; rintro e y3 ⟨rfl, h3⟩))
  go_ret
  exact ⟨rfl, keepB (keepB h1 h2) h3⟩
set_option maxRecDepth 100000 in
set_option maxHeartbeats 800000 in
theorem block_2true (k : ByteArray) (x : List Bool) (hx : x.length = 64) (hk : Hid (k.size = 16)) (w : World) :
    Calls Tryz.prog 65 #[.string k, .string ⟨(byW x).toArray⟩, .bool true] w fun e w' => e = .returned (.string ⟨(byW (cph k.data.toList true x)).toArray⟩) ∧ Below w.heap.size w w' := by
  have hz := hk.out
  have q8 : ((k.size : Int) == 8) = false := beq_eq_false_iff_ne.mpr (by omega)
  have q16 : ((k.size : Int) == 16) = true := beq_iff_eq.mpr (by omega)
  have i1 : (8 : Int) ≤ (k.size : Int) := by omega
  have i2 : (16 : Int) ≤ (k.size : Int) := by omega
  have i3 : (k.size : Int) ≤ 24 := by omega
  have i4 : ((k.size : Int) - 8).toNat = k.size - 8 := by omega
  have l0 : k.data.toList.length = 16 := by rw [len_size, hz]
  have P1 : ∀ u, Calls Tryz.prog 84 #[.string (k.extract 0 8), .string ⟨(byW x).toArray⟩, .bool true] u fun e w' => e = .returned (.string ⟨(byW (des (sc k.data.toList 0).reverse x)).toArray⟩) ∧ Below u.heap.size u w' := fun u => by
    have h := one_x (k.extract 0 8) x hx true (by rw [ByteArray.size_extract]; omega : (k.extract 0 8).size = 8) u
    rw [show (k.extract 0 8).data.toList = pt k.data.toList 0 from ext_list k 0] at h
    exact h
  have P2 : ∀ u, Calls Tryz.prog 84 #[.string (k.extract 8 16), .string ⟨(byW (des (sc k.data.toList 0).reverse x)).toArray⟩, .bool false] u fun e w' => e = .returned (.string ⟨(byW (des (sc k.data.toList 1) (des (sc k.data.toList 0).reverse x))).toArray⟩) ∧ Below u.heap.size u w' := fun u => by
    have h := one_x (k.extract 8 16) (des (sc k.data.toList 0).reverse x) (des_len _ _) false (by rw [ByteArray.size_extract]; omega : (k.extract 8 16).size = 8) u
    rw [show (k.extract 8 16).data.toList = pt k.data.toList 1 from ext_list k 1] at h
    exact h
  have P3 : ∀ u, Calls Tryz.prog 84 #[.string (k.extract 0 8), .string ⟨(byW (des (sc k.data.toList 1) (des (sc k.data.toList 0).reverse x))).toArray⟩, .bool true] u fun e w' => e = .returned (.string ⟨(byW (des (sc k.data.toList 0).reverse (des (sc k.data.toList 1) (des (sc k.data.toList 0).reverse x)))).toArray⟩) ∧ Below u.heap.size u w' := fun u => by
    have h := one_x (k.extract 0 8) (des (sc k.data.toList 1) (des (sc k.data.toList 0).reverse x)) (des_len _ _) true (by rw [ByteArray.size_extract]; omega : (k.extract 0 8).size = 8) u
    rw [show (k.extract 0 8).data.toList = pt k.data.toList 0 from ext_list k 0] at h
    exact h
  have e : cph k.data.toList true x = (des (sc k.data.toList 0).reverse (des (sc k.data.toList 1) (des (sc k.data.toList 0).reverse x))) := by
    unfold cph dec enc lst
    rw [if_neg (show ¬ k.data.toList.length = 8 by omega)]
    simp [l0]
  rw [e]
  generalize (byW (des (sc k.data.toList 0).reverse (des (sc k.data.toList 1) (des (sc k.data.toList 0).reverse x)))).toArray = X3 at *
  generalize (byW (des (sc k.data.toList 1) (des (sc k.data.toList 0).reverse x))).toArray = X2 at *
  generalize (byW (des (sc k.data.toList 0).reverse x)).toArray = X1 at *
  generalize (byW x).toArray = X0 at *
  clear e l0 hz hk
  go_enter Tryz.func65, Tryz.ntmps65
  go_wp2_with (first
    | (go_at_call_of 84 (Value.string ⟨X0⟩); refine (P1 _).mono ?_; rintro e y1 ⟨rfl, h1⟩)
    | (go_at_call_of 84 (Value.string ⟨X1⟩); refine (P2 _).mono ?_; rintro e y2 ⟨rfl, h2⟩)
    | (go_at_call_of 84 (Value.string ⟨X2⟩); refine (P3 _).mono ?_; rintro e y3 ⟨rfl, h3⟩))
  go_ret
  exact ⟨rfl, keepB (keepB h1 h2) h3⟩
set_option maxRecDepth 100000 in
set_option maxHeartbeats 800000 in
theorem block_3false (k : ByteArray) (x : List Bool) (hx : x.length = 64) (hk : Hid (k.size = 24)) (w : World) :
    Calls Tryz.prog 65 #[.string k, .string ⟨(byW x).toArray⟩, .bool false] w fun e w' => e = .returned (.string ⟨(byW (cph k.data.toList false x)).toArray⟩) ∧ Below w.heap.size w w' := by
  have hz := hk.out
  have q8 : ((k.size : Int) == 8) = false := beq_eq_false_iff_ne.mpr (by omega)
  have q16 : ((k.size : Int) == 16) = false := beq_eq_false_iff_ne.mpr (by omega)
  have i1 : (8 : Int) ≤ (k.size : Int) := by omega
  have i2 : (16 : Int) ≤ (k.size : Int) := by omega
  have i3 : (k.size : Int) ≤ 24 := by omega
  have i4 : ((k.size : Int) - 8).toNat = k.size - 8 := by omega
  have l0 : k.data.toList.length = 24 := by rw [len_size, hz]
  have P1 : ∀ u, Calls Tryz.prog 84 #[.string (k.extract 0 8), .string ⟨(byW x).toArray⟩, .bool false] u fun e w' => e = .returned (.string ⟨(byW (des (sc k.data.toList 0) x)).toArray⟩) ∧ Below u.heap.size u w' := fun u => by
    have h := one_x (k.extract 0 8) x hx false (by rw [ByteArray.size_extract]; omega : (k.extract 0 8).size = 8) u
    rw [show (k.extract 0 8).data.toList = pt k.data.toList 0 from ext_list k 0] at h
    exact h
  have P2 : ∀ u, Calls Tryz.prog 84 #[.string (k.extract 8 16), .string ⟨(byW (des (sc k.data.toList 0) x)).toArray⟩, .bool true] u fun e w' => e = .returned (.string ⟨(byW (des (sc k.data.toList 1).reverse (des (sc k.data.toList 0) x))).toArray⟩) ∧ Below u.heap.size u w' := fun u => by
    have h := one_x (k.extract 8 16) (des (sc k.data.toList 0) x) (des_len _ _) true (by rw [ByteArray.size_extract]; omega : (k.extract 8 16).size = 8) u
    rw [show (k.extract 8 16).data.toList = pt k.data.toList 1 from ext_list k 1] at h
    exact h
  have P3 : ∀ u, Calls Tryz.prog 84 #[.string (k.extract (k.size - 8) k.size), .string ⟨(byW (des (sc k.data.toList 1).reverse (des (sc k.data.toList 0) x))).toArray⟩, .bool false] u fun e w' => e = .returned (.string ⟨(byW (des (sc k.data.toList 2) (des (sc k.data.toList 1).reverse (des (sc k.data.toList 0) x)))).toArray⟩) ∧ Below u.heap.size u w' := fun u => by
    have h := one_x (k.extract (k.size - 8) k.size) (des (sc k.data.toList 1).reverse (des (sc k.data.toList 0) x)) (des_len _ _) false (by rw [ByteArray.size_extract]; omega : (k.extract (k.size - 8) k.size).size = 8) u
    rw [show (k.extract (k.size - 8) k.size).data.toList = pt k.data.toList 2 from (by rw [hz]; exact ext_list k 2)] at h
    exact h
  have e : cph k.data.toList false x = (des (sc k.data.toList 2) (des (sc k.data.toList 1).reverse (des (sc k.data.toList 0) x))) := by
    unfold cph dec enc lst
    rw [if_neg (show ¬ k.data.toList.length = 8 by omega)]
    simp [l0]
  rw [e]
  generalize (byW (des (sc k.data.toList 2) (des (sc k.data.toList 1).reverse (des (sc k.data.toList 0) x)))).toArray = X3 at *
  generalize (byW (des (sc k.data.toList 1).reverse (des (sc k.data.toList 0) x))).toArray = X2 at *
  generalize (byW (des (sc k.data.toList 0) x)).toArray = X1 at *
  generalize (byW x).toArray = X0 at *
  clear e l0 hz hk
  go_enter Tryz.func65, Tryz.ntmps65
  go_wp2_with (first
    | (go_at_call_of 84 (Value.string ⟨X0⟩); refine (P1 _).mono ?_; rintro e y1 ⟨rfl, h1⟩)
    | (go_at_call_of 84 (Value.string ⟨X1⟩); refine (P2 _).mono ?_; rintro e y2 ⟨rfl, h2⟩)
    | (go_at_call_of 84 (Value.string ⟨X2⟩); refine (P3 _).mono ?_; rintro e y3 ⟨rfl, h3⟩))
  go_ret
  exact ⟨rfl, keepB (keepB h1 h2) h3⟩
set_option maxRecDepth 100000 in
set_option maxHeartbeats 800000 in
theorem block_3true (k : ByteArray) (x : List Bool) (hx : x.length = 64) (hk : Hid (k.size = 24)) (w : World) :
    Calls Tryz.prog 65 #[.string k, .string ⟨(byW x).toArray⟩, .bool true] w fun e w' => e = .returned (.string ⟨(byW (cph k.data.toList true x)).toArray⟩) ∧ Below w.heap.size w w' := by
  have hz := hk.out
  have q8 : ((k.size : Int) == 8) = false := beq_eq_false_iff_ne.mpr (by omega)
  have q16 : ((k.size : Int) == 16) = false := beq_eq_false_iff_ne.mpr (by omega)
  have i1 : (8 : Int) ≤ (k.size : Int) := by omega
  have i2 : (16 : Int) ≤ (k.size : Int) := by omega
  have i3 : (k.size : Int) ≤ 24 := by omega
  have i4 : ((k.size : Int) - 8).toNat = k.size - 8 := by omega
  have l0 : k.data.toList.length = 24 := by rw [len_size, hz]
  have P1 : ∀ u, Calls Tryz.prog 84 #[.string (k.extract (k.size - 8) k.size), .string ⟨(byW x).toArray⟩, .bool true] u fun e w' => e = .returned (.string ⟨(byW (des (sc k.data.toList 2).reverse x)).toArray⟩) ∧ Below u.heap.size u w' := fun u => by
    have h := one_x (k.extract (k.size - 8) k.size) x hx true (by rw [ByteArray.size_extract]; omega : (k.extract (k.size - 8) k.size).size = 8) u
    rw [show (k.extract (k.size - 8) k.size).data.toList = pt k.data.toList 2 from (by rw [hz]; exact ext_list k 2)] at h
    exact h
  have P2 : ∀ u, Calls Tryz.prog 84 #[.string (k.extract 8 16), .string ⟨(byW (des (sc k.data.toList 2).reverse x)).toArray⟩, .bool false] u fun e w' => e = .returned (.string ⟨(byW (des (sc k.data.toList 1) (des (sc k.data.toList 2).reverse x))).toArray⟩) ∧ Below u.heap.size u w' := fun u => by
    have h := one_x (k.extract 8 16) (des (sc k.data.toList 2).reverse x) (des_len _ _) false (by rw [ByteArray.size_extract]; omega : (k.extract 8 16).size = 8) u
    rw [show (k.extract 8 16).data.toList = pt k.data.toList 1 from ext_list k 1] at h
    exact h
  have P3 : ∀ u, Calls Tryz.prog 84 #[.string (k.extract 0 8), .string ⟨(byW (des (sc k.data.toList 1) (des (sc k.data.toList 2).reverse x))).toArray⟩, .bool true] u fun e w' => e = .returned (.string ⟨(byW (des (sc k.data.toList 0).reverse (des (sc k.data.toList 1) (des (sc k.data.toList 2).reverse x)))).toArray⟩) ∧ Below u.heap.size u w' := fun u => by
    have h := one_x (k.extract 0 8) (des (sc k.data.toList 1) (des (sc k.data.toList 2).reverse x)) (des_len _ _) true (by rw [ByteArray.size_extract]; omega : (k.extract 0 8).size = 8) u
    rw [show (k.extract 0 8).data.toList = pt k.data.toList 0 from ext_list k 0] at h
    exact h
  have e : cph k.data.toList true x = (des (sc k.data.toList 0).reverse (des (sc k.data.toList 1) (des (sc k.data.toList 2).reverse x))) := by
    unfold cph dec enc lst
    rw [if_neg (show ¬ k.data.toList.length = 8 by omega)]
    simp [l0]
  rw [e]
  generalize (byW (des (sc k.data.toList 0).reverse (des (sc k.data.toList 1) (des (sc k.data.toList 2).reverse x)))).toArray = X3 at *
  generalize (byW (des (sc k.data.toList 1) (des (sc k.data.toList 2).reverse x))).toArray = X2 at *
  generalize (byW (des (sc k.data.toList 2).reverse x)).toArray = X1 at *
  generalize (byW x).toArray = X0 at *
  clear e l0 hz hk
  go_enter Tryz.func65, Tryz.ntmps65
  go_wp2_with (first
    | (go_at_call_of 84 (Value.string ⟨X0⟩); refine (P1 _).mono ?_; rintro e y1 ⟨rfl, h1⟩)
    | (go_at_call_of 84 (Value.string ⟨X1⟩); refine (P2 _).mono ?_; rintro e y2 ⟨rfl, h2⟩)
    | (go_at_call_of 84 (Value.string ⟨X2⟩); refine (P3 _).mono ?_; rintro e y3 ⟨rfl, h3⟩))
  go_ret
  exact ⟨rfl, keepB (keepB h1 h2) h3⟩
end Go.Proofs.YtpifebapodfeaaaGreat.Rl
/- Turn and Chain, the document's. -/
namespace Go.Proofs.YtpifebapodfeaaaGreat.Ru
set_option linter.unusedVariables false
open Go.RowKit Pla Cb Wd Nw Bk Eb Et Cc Ch Pm Ro Rl
open Bl (len_size mk_eq)
open Ea (dl szL ext_list cat_mk bits_xorL lastB rowB last_bits last_size row_succ row_size)
open Xo (xorL xorL_len xor_ref)
theorem block_any (k : ByteArray) (hk : k.size = 8 ∨ k.size = 16 ∨ k.size = 24) (x : List Bool) (hx : x.length = 64) (back : Bool) (w : World) :
    Calls Tryz.prog 65 #[.string k, .string ⟨(byW x).toArray⟩, .bool back] w fun e w' => e = .returned (.string ⟨(byW (cph k.data.toList back x)).toArray⟩) ∧ Below w.heap.size w w' := by
  rcases hk with h | h | h
  · exact block_one k x hx back h w
  · cases back
    · exact block_2false k x hx h w
    · exact block_2true k x hx h w
  · cases back
    · exact block_3false k x hx h w
    · exact block_3true k x hx h w
theorem piece_eq (s : ByteArray) (j : Nat) (h : 8 * j + 8 ≤ s.size) : s.extract (8 * j) (8 * j + 8) = ⟨(byW (blk s.data.toList j)).toArray⟩ := by
  have e : (s.extract (8 * j) (8 * j + 8)).data.toList = byW (blk s.data.toList j) := by
    rw [ext_list, blk, byW_bits]
    rw [pt, List.length_take, List.length_drop, len_size]; omega
  rw [← e, mk_eq]
def turnB (l : List UInt8) (back : Bool) (s : ByteArray) (j : Nat) : ByteArray := ⟨(outN (fun i => cph l back (blk s.data.toList i)) j).toArray⟩
theorem turn_succ (l : List UInt8) (back : Bool) (s : ByteArray) (j : Nat) : turnB l back s j ++ ⟨(byW (cph l back (blk s.data.toList j))).toArray⟩ = turnB l back s (j + 1) := by rw [turnB, cat_mk, turnB, outN_succ]
theorem turn_size (l : List UInt8) (back : Bool) (s : ByteArray) (j : Nat) : (turnB l back s j).size = 8 * j := by rw [turnB, szL, outN_len]
theorem byW_size (x : List Bool) : (ByteArray.mk (byW x).toArray).size = 8 := by rw [szL, byW_len]
theorem block_piece (k : ByteArray) (hk : k.size = 8 ∨ k.size = 16 ∨ k.size = 24) (s : ByteArray) (j : Nat) (h : 8 * j + 8 ≤ s.size) (back : Bool) (w : World) :
    Calls Tryz.prog 65 #[.string k, .string (s.extract (8 * j) (8 * j + 8)), .bool back] w fun e w' => e = .returned (.string ⟨(byW (cph k.data.toList back (blk s.data.toList j))).toArray⟩) ∧ Below w.heap.size w w' := by
  rw [piece_eq s j h]
  exact block_any k hk _ (blk_len' s j h) back w
theorem turn_bad (k s : ByteArray) (back : Bool) (h : Hid (s.size % 8 ≠ 0)) (hs : s.size ≤ 1099511627776) (w : World) :
    Calls Tryz.prog 43 #[.string k, .string s, .bool back] w fun e w' => e = .returned (.tuple #[.string ⟨#[]⟩, .int .i64 31]) ∧ w' = w := by
  have q : ((s.size : Int) % 8 != 0) = true := by have := h.out; simp only [bne_iff_ne]; omega
  go_enter Tryz.func43, Tryz.ntmps43
  go_wp2
  exact bodyPost_ret (v := .tuple #[.string ⟨#[]⟩, .int .i64 31]) (by simp [results, Tryz.results43, go_sem]) rfl ⟨rfl, rfl⟩
set_option maxRecDepth 100000 in
set_option maxHeartbeats 1600000 in
theorem turn_ref (k s : ByteArray) (back : Bool) (hk : k.size = 8 ∨ k.size = 16 ∨ k.size = 24) (N : Nat) (hN : Hid (s.size = 8 * N)) (hN2 : N ≤ 1000) (w : World) :
    Calls Tryz.prog 43 #[.string k, .string s, .bool back] w fun e w' => e = .returned (.tuple #[.string (turnB k.data.toList back s N), .int .i64 0]) ∧ Below w.heap.size w w' := by
  have q : ((s.size : Int) % 8 != 0) = false := by have := hN.out; simp only [bne_eq_false_iff_eq]; omega
  have hkH : Hid (k.size = 8 ∨ k.size = 16 ∨ k.size = 24) := hk
  clear hk
  go_enter Tryz.func43, Tryz.ntmps43
  go_wp2
  go_loopw [8, 9] (fun v c wr => ∃ j : Nat, j ≤ N ∧ v = .string (turnB k.data.toList back s j) ∧ c = .int .i64 (8 * (j : Int)) ∧ Below w.heap.size w wr) (fun _ c _ => 8 * N + 8 - (intOf c).toNat)
  case atStart => exact ⟨0, Nat.zero_le _, rfl, rfl, Below.refl _ _⟩
  case round =>
    obtain ⟨j, hj, rfl, rfl, hb⟩ := hrel
    have eN := hN.out
    by_cases hlt : j < N
    · have q0 : (0 : Int) ≤ 8 * (j : Int) := by omega
      have q1 : 8 * (j : Int) < (s.size : Int) := by omega
      have q2 : 8 * (j : Int) + 8 ≤ (s.size : Int) := by omega
      have q3 : (s.size : Int) ≤ 8000 := by omega
      have B1 := fun u => block_piece k hkH.out s j (by omega) back u
      have HN : Hid (turnB k.data.toList back s j ++ ⟨(byW (cph k.data.toList back (blk s.data.toList j))).toArray⟩ = turnB k.data.toList back s (j + 1)) := turn_succ _ _ _ _
      have c1 : ¬ 9223372036854775807 < (turnB k.data.toList back s j).size + ((byW (cph k.data.toList back (blk s.data.toList j))).toArray).size := by rw [turn_size]; have := byW_size (cph k.data.toList back (blk s.data.toList j)); have h2 : ((byW (cph k.data.toList back (blk s.data.toList j))).toArray).size = 8 := this; omega
      have hH : Hid (8 * (j + 1) ≤ 8 * N) := (by omega : 8 * (j + 1) ≤ 8 * N)
      clear eN hkH
      generalize (byW (cph k.data.toList back (blk s.data.toList j))).toArray = Z at *
      generalize turnB k.data.toList back s j = T at *
      go_wp2_with (go_at_call 65; refine (B1 _).mono ?_; rintro e y ⟨rfl, hy⟩)
      exact ⟨⟨j + 1, hlt, by rw [HN.out], by congr 1, keepB hb hy⟩, by have := hH.out; simp only [intOf]; omega⟩
    · obtain rfl : j = N := by omega
      have q1 : ¬ 8 * (j : Int) < (s.size : Int) := by omega
      clear eN hkH
      go_wp2
      exact bodyPost_ret (v := .tuple #[.string (turnB k.data.toList back s j), .int .i64 0]) (by simp [results, Tryz.results43, go_sem]) rfl ⟨rfl, hb⟩
end Go.Proofs.YtpifebapodfeaaaGreat.Ru
/- turned: what the program answers is what the document answers. -/
namespace Go.Proofs.YtpifebapodfeaaaGreat.Tu
set_option linter.unusedVariables false
open Go.RowKit Pla Cb Wd Nw Bk Eb Et Cc Ch Pm Ro Rl Ru
open Bl (len_size mk_eq)
def RetE (R : ByteArray) (E : Int) (w : World) : Ending → World → Prop := fun e w' => e = .returned (.tuple #[.string R, .int .i64 E]) ∧ Below w.heap.size w w'
theorem good_len {n K : Nat} (h : kindN n = K) (h1 : 1 ≤ K) : n = 8 ∨ n = 16 ∨ n = 24 := by
  unfold kindN at h
  split at h
  · omega
  · split at h
    · omega
    · split at h <;> omega
theorem map_turn (k s : ByteArray) (N : Nat) (hN : s.size = 8 * N) (back : Bool) : (⟨(mapB (if back then dec k.data.toList else enc k.data.toList) s.data.toList).toArray⟩ : ByteArray) = turnB k.data.toList back s N := by
  rw [turnB, ← mapB_N _ s N hN]
  cases back <;> rfl
end Go.Proofs.YtpifebapodfeaaaGreat.Tu
/- Chain, the document's; chained. -/
namespace Go.Proofs.YtpifebapodfeaaaGreat.Rc
set_option linter.unusedVariables false
open Go.RowKit Pla Cb Wd Nw Bk Eb Et Cc Ch Pm Ro Rl Ru Tu
open Bl (len_size mk_eq)
open Ea (dl szL ext_list cat_mk bits_xorL lastB rowB last_bits last_size row_succ row_size mixB)
open Xo (xorL xorL_len xor_ref)
theorem xor_two (x y : List Bool) (hx : x.length = 64) (hy : y.length = 64) (a b : ByteArray) (ha : a.size = 8) (hb : b.size = 8) (ea : bitsS a.data.toList = x) (eb : bitsS b.data.toList = y) (u : World) :
    Calls Tryz.prog 66 #[.string a, .string b] u (RetE ⟨(byW (xr x y)).toArray⟩ 0 u) := by
  have h := xor_ref a b 8 ha hb (by decide) u
  have l1 : a.data.toList.length = 8 := by rw [len_size, ha]
  have l2 : b.data.toList.length = 8 := by rw [len_size, hb]
  have e : xorL a.data.toList b.data.toList = byW (xr x y) := by
    refine bitsS_inj _ _ (by rw [xorL_len _ _ (l1.trans l2.symm), l1, byW_len]) ?_
    rw [bits_xorL _ _ (l1.trans l2.symm), ea, eb, bits_byW _ (xr_len _ _ 64 hx hy)]
  rw [e] at h
  exact h
theorem piece_bits (s : ByteArray) (j : Nat) (h : 8 * j + 8 ≤ s.size) : bitsS (s.extract (8 * j) (8 * j + 8)).data.toList = blk s.data.toList j ∧ (s.extract (8 * j) (8 * j + 8)).size = 8 := ⟨by rw [ext_list]; rfl, by rw [ByteArray.size_extract]; omega⟩
/-- the bytes of the block ahead -/
def prvB (f s : ByteArray) : Nat → ByteArray
  | 0 => f
  | j + 1 => s.extract (8 * j) (8 * j + 8)
theorem prvB_bits (f s : ByteArray) (hf : f.size = 8) (N : Nat) (hN : s.size = 8 * N) : ∀ j, j ≤ N → bitsS (prvB f s j).data.toList = prv (bitsS f.data.toList) s.data.toList j ∧ (prvB f s j).size = 8
  | 0, _ => ⟨rfl, hf⟩
  | j + 1, h => by
    have := piece_bits s j (by omega)
    exact ⟨this.1, this.2⟩
def unB (l : List UInt8) (f s : ByteArray) (j : Nat) : ByteArray := ⟨(outN (fun i => xr (dec l (blk s.data.toList i)) (prv (bitsS f.data.toList) s.data.toList i)) j).toArray⟩
theorem un_succ (l : List UInt8) (f s : ByteArray) (j : Nat) : unB l f s j ++ ⟨(byW (xr (dec l (blk s.data.toList j)) (prv (bitsS f.data.toList) s.data.toList j))).toArray⟩ = unB l f s (j + 1) := by rw [unB, cat_mk, unB, outN_succ]
theorem un_size (l : List UInt8) (f s : ByteArray) (j : Nat) : (unB l f s j).size = 8 * j := by rw [unB, szL, outN_len]
theorem chain_bad (k f s : ByteArray) (back : Bool) (q : (((f.size : Int) != 8) || ((s.size : Int) % 8 != 0)) = true) (hs : s.size ≤ 1099511627776) (w : World) :
    Calls Tryz.prog 42 #[.string k, .string f, .string s, .bool back] w fun e w' => e = .returned (.tuple #[.string ⟨#[]⟩, .int .i64 31]) ∧ w' = w := by
  cases q1 : ((f.size : Int) != 8)
  · rw [q1, Bool.false_or] at q
    go_enter Tryz.func42, Tryz.ntmps42
    go_wp2
    exact bodyPost_ret (v := .tuple #[.string ⟨#[]⟩, .int .i64 31]) (by simp [results, Tryz.results42, go_sem]) rfl ⟨rfl, rfl⟩
  · clear q
    go_enter Tryz.func42, Tryz.ntmps42
    go_wp2
    exact bodyPost_ret (v := .tuple #[.string ⟨#[]⟩, .int .i64 31]) (by simp [results, Tryz.results42, go_sem]) rfl ⟨rfl, rfl⟩
set_option maxRecDepth 100000 in
set_option maxHeartbeats 1600000 in
theorem chain_fore (k f s : ByteArray) (hk : k.size = 8 ∨ k.size = 16 ∨ k.size = 24) (hf : Hid (f.size = 8)) (N : Nat) (hN : Hid (s.size = 8 * N)) (hN2 : N ≤ 1000000) (w : World) :
    Calls Tryz.prog 42 #[.string k, .string f, .string s, .bool false] w (RetE (rowB k.data.toList f s N) 0 w) := by
  have q : ((s.size : Int) % 8 != 0) = false := by have := hN.out; simp only [bne_eq_false_iff_eq]; omega
  have qf : ((f.size : Int) != 8) = false := by have := hf.out; simp only [bne_eq_false_iff_eq]; omega
  have hkH : Hid (k.size = 8 ∨ k.size = 16 ∨ k.size = 24) := hk
  have hFl : (bitsS f.data.toList).length = 64 := by rw [bitsS_len, len_size, hf.out]
  clear hk
  go_enter Tryz.func42, Tryz.ntmps42
  go_wp2
  go_loopw [10, 11, 12] (fun v vl c wr => ∃ j : Nat, j ≤ N ∧ v = .string (rowB k.data.toList f s j) ∧ vl = .string (lastB k.data.toList f s j) ∧ c = .int .i64 (8 * (j : Int)) ∧ Below w.heap.size w wr) (fun _ _ c _ => 8 * N + 8 - (intOf c).toNat)
  case atStart => exact ⟨0, Nat.zero_le _, rfl, rfl, rfl, Below.refl _ _⟩
  case round =>
    obtain ⟨j, hj, rfl, rfl, rfl, hb⟩ := hrel
    have eN := hN.out
    by_cases hlt : j < N
    · have q0 : (0 : Int) ≤ 8 * (j : Int) := by omega
      have q1 : 8 * (j : Int) < (s.size : Int) := by omega
      have q2 : 8 * (j : Int) + 8 ≤ (s.size : Int) := by omega
      have q3 : (s.size : Int) ≤ 8000000 := by omega
      have pb := piece_bits s j (by omega)
      have hbl := blk_len' s j (by omega)
      have hal := ahd_len k.data.toList _ hFl s.data.toList j
      have X1 := fun u => xor_two _ _ hbl hal (s.extract (8 * j) (8 * j + 8)) (lastB k.data.toList f s j) pb.2 (last_size _ _ _ hf.out j) pb.1 (last_bits _ _ _ j) u
      have B1 := fun u => block_any k hkH.out _ (xr_len _ _ 64 hbl hal) false u
      have HN2 : Hid (rowB k.data.toList f s j ++ lastB k.data.toList f s (j + 1) = rowB k.data.toList f s (j + 1)) := row_succ _ _ _ _
      have c2 : ¬ 9223372036854775807 < (rowB k.data.toList f s j).size + (lastB k.data.toList f s (j + 1)).size := by rw [row_size, last_size _ _ _ hf.out]; omega
      have HLB : Hid ((⟨(byW (cph k.data.toList false (xr (blk s.data.toList j) (ahd k.data.toList (bitsS f.data.toList) s.data.toList j)))).toArray⟩ : ByteArray) = lastB k.data.toList f s (j + 1)) := rfl
      rw [HLB.out] at B1
      have hH : Hid (8 * (j + 1) ≤ 8 * N) := (by omega : 8 * (j + 1) ≤ 8 * N)
      clear eN hkH hbl hal pb HLB
      generalize (byW (xr (blk s.data.toList j) (ahd k.data.toList (bitsS f.data.toList) s.data.toList j))).toArray = Z at *
      generalize rowB k.data.toList f s j = RJ at *
      generalize lastB k.data.toList f s j = LJ at *
      generalize hLB : lastB k.data.toList f s (j + 1) = LB at *
      have HLB : Hid (lastB k.data.toList f s (j + 1) = LB) := hLB
      clear hLB
      go_wp2_with (first
        | (go_at_call 66; refine (X1 _).mono ?_; rintro e x1 ⟨rfl, h1⟩)
        | (go_at_call 65; refine (B1 _).mono ?_; rintro e x2 ⟨rfl, h2⟩))
      exact ⟨⟨j + 1, hlt, by rw [HN2.out], by rw [HLB.out], by congr 1, keepB (keepB hb h1) h2⟩, by have := hH.out; simp only [intOf]; omega⟩
    · obtain rfl : j = N := by omega
      have q1 : ¬ 8 * (j : Int) < (s.size : Int) := by omega
      clear eN hkH
      go_wp2
      exact bodyPost_ret (v := .tuple #[.string (rowB k.data.toList f s j), .int .i64 0]) (by simp [results, Tryz.results42, go_sem]) rfl ⟨rfl, hb⟩
set_option maxRecDepth 100000 in
set_option maxHeartbeats 1600000 in
theorem chain_back (k f s : ByteArray) (hk : k.size = 8 ∨ k.size = 16 ∨ k.size = 24) (hf : Hid (f.size = 8)) (N : Nat) (hN : Hid (s.size = 8 * N)) (hN2 : N ≤ 1000000) (w : World) :
    Calls Tryz.prog 42 #[.string k, .string f, .string s, .bool true] w (RetE (unB k.data.toList f s N) 0 w) := by
  have q : ((s.size : Int) % 8 != 0) = false := by have := hN.out; simp only [bne_eq_false_iff_eq]; omega
  have qf : ((f.size : Int) != 8) = false := by have := hf.out; simp only [bne_eq_false_iff_eq]; omega
  have hkH : Hid (k.size = 8 ∨ k.size = 16 ∨ k.size = 24) := hk
  have hFl : (bitsS f.data.toList).length = 64 := by rw [bitsS_len, len_size, hf.out]
  clear hk
  go_enter Tryz.func42, Tryz.ntmps42
  go_wp2
  go_loopw [10, 11, 12] (fun v vl c wr => ∃ j : Nat, j ≤ N ∧ v = .string (unB k.data.toList f s j) ∧ vl = .string (prvB f s j) ∧ c = .int .i64 (8 * (j : Int)) ∧ Below w.heap.size w wr) (fun _ _ c _ => 8 * N + 8 - (intOf c).toNat)
  case atStart => exact ⟨0, Nat.zero_le _, rfl, rfl, rfl, Below.refl _ _⟩
  case round =>
    obtain ⟨j, hj, rfl, rfl, rfl, hb⟩ := hrel
    have eN := hN.out
    by_cases hlt : j < N
    · have q0 : (0 : Int) ≤ 8 * (j : Int) := by omega
      have q1 : 8 * (j : Int) < (s.size : Int) := by omega
      have q2 : 8 * (j : Int) + 8 ≤ (s.size : Int) := by omega
      have q3 : (s.size : Int) ≤ 8000000 := by omega
      have pv := prvB_bits f s hf.out N eN j hj
      have hal := prv_lenS (bitsS f.data.toList) hFl s N eN j hlt
      have B1 := fun u => block_piece k hkH.out s j (by omega) true u
      have X1 := fun u => xor_two _ _ (cph_len k.data.toList true (blk s.data.toList j)) hal ⟨(byW (cph k.data.toList true (blk s.data.toList j))).toArray⟩ (prvB f s j) (byW_size _) pv.2 (by rw [dl, bits_byW _ (cph_len _ _ _)]) pv.1 u
      have HN2 : Hid (unB k.data.toList f s j ++ ⟨(byW (xr (cph k.data.toList true (blk s.data.toList j)) (prv (bitsS f.data.toList) s.data.toList j))).toArray⟩ = unB k.data.toList f s (j + 1)) := un_succ _ _ _ _
      have hZ : (byW (xr (cph k.data.toList true (blk s.data.toList j)) (prv (bitsS f.data.toList) s.data.toList j))).toArray.size = 8 := by simp [byW_len]
      have c2 : ¬ 9223372036854775807 < (unB k.data.toList f s j).size + (byW (xr (cph k.data.toList true (blk s.data.toList j)) (prv (bitsS f.data.toList) s.data.toList j))).toArray.size := by rw [un_size, hZ]; omega
      have hH : Hid (8 * (j + 1) ≤ 8 * N) := (by omega : 8 * (j + 1) ≤ 8 * N)
      clear eN hkH hal pv hZ
      generalize (byW (xr (cph k.data.toList true (blk s.data.toList j)) (prv (bitsS f.data.toList) s.data.toList j))).toArray = Z at *
      generalize (byW (cph k.data.toList true (blk s.data.toList j))).toArray = Y at *
      generalize unB k.data.toList f s j = RJ at *
      generalize prvB f s j = LJ at *
      go_wp2_with (first
        | (go_at_call 65; refine (B1 _).mono ?_; rintro e x1 ⟨rfl, h1⟩)
        | (go_at_call 66; refine (X1 _).mono ?_; rintro e x2 ⟨rfl, h2⟩))
      exact ⟨⟨j + 1, hlt, by rw [HN2.out], rfl, by congr 1, keepB (keepB hb h1) h2⟩, by have := hH.out; simp only [intOf]; omega⟩
    · obtain rfl : j = N := by omega
      have q1 : ¬ 8 * (j : Int) < (s.size : Int) := by omega
      clear eN hkH
      go_wp2
      exact bodyPost_ret (v := .tuple #[.string (unB k.data.toList f s j), .int .i64 0]) (by simp [results, Tryz.results42, go_sem]) rfl ⟨rfl, hb⟩
end Go.Proofs.YtpifebapodfeaaaGreat.Rc
