/- journal's reader: a number's bits. -/
import Derived.Test.YtabmpngliphdpaaDoorJj
import Derived.Test.YtabmpngliphdpaaDoorJk
namespace Go.Proofs.YtabmpngliphdpaaDoor.Jl
set_option linter.unusedVariables false
set_option linter.unusedSimpArgs false
open Go.RowKit Lib0 Kb
attribute [local go_sem] Oper.semAt_some
/-- a number's groups: what is read, and what is left -/
def wd : Nat → Nat → Nat → List UInt8 → Option (Nat × List UInt8)
  | 0, _, _, _ => none
  | _ + 1, _, _, [] => none
  | f + 1, k, u, c :: t => if (k = 9 ∧ 1 < c.toNat % 128) ∨ (c.toNat = 0 ∧ 0 < k) then none else if c.toNat < 128 then some (u + c.toNat % 128 * 128 ^ k, t) else wd f (k + 1) (u + c.toNat % 128 * 128 ^ k) t
/-- what is left to read; none: something was wrong -/
def wdR (o : Option (List UInt8)) : Option (List UInt8) := o.bind fun l => (wd 10 0 0 l).map (·.2)
def wdV (o : Option (List UInt8)) : Nat := ((o.bind fun l => wd 10 0 0 l).map (·.1)).getD 0
def Rd (w : World) (g : Nat) (o : Option (List UInt8)) : Prop :=
  ∃ s b, w.heap[g]? = some (.cells #[.string s, .bool b] 167 (0, 0)) ∧ match o with
    | none => b = true
    | some l => b = false ∧ s.data.toList = l
theorem wd_lt : ∀ f k u l v t, wd f k u l = some (v, t) → f + k = 10 → u < 128 ^ k → v < 18446744073709551616
  | 0, _, _, _, _, _, h, _, _ => by simp [wd] at h
  | _ + 1, _, _, [], _, _, h, _, _ => by simp [wd] at h
  | f + 1, k, u, c :: t, v, t', h, hf, hu => by
    rw [wd] at h
    split at h
    · cases h
    · rename_i hn
      split at h
      · cases h
        have h7 : c.toNat % 128 ≤ 127 := by omega
        rcases Nat.lt_or_ge k 9 with h9 | h9
        · have hp : 128 ^ (k + 1) ≤ 128 ^ 9 := Nat.pow_le_pow_right (by decide) (by omega)
          have : c.toNat % 128 * 128 ^ k ≤ 127 * 128 ^ k := Nat.mul_le_mul_right _ h7
          rw [Nat.pow_succ] at hp
          have : (128 : Nat) ^ 9 = 9223372036854775808 := by decide
          omega
        · have hk : k = 9 := by omega
          subst hk
          have : c.toNat % 128 ≤ 1 := by omega
          have : c.toNat % 128 * 128 ^ 9 ≤ 1 * 128 ^ 9 := Nat.mul_le_mul_right _ this
          have : (128 : Nat) ^ 9 = 9223372036854775808 := by decide
          omega
      · refine wd_lt f (k + 1) _ t v t' h (by omega) ?_
        have h7 : c.toNat % 128 ≤ 127 := by omega
        have : c.toNat % 128 * 128 ^ k ≤ 127 * 128 ^ k := Nat.mul_le_mul_right _ h7
        rw [Nat.pow_succ]; omega
theorem rd_set {w : World} {g : Nat} {s s' : ByteArray} {b b' : Bool} (h : w.heap[g]? = some (.cells #[.string s, .bool b] 167 (0, 0))) :
    (w.setCell ⟨g, 0, none⟩ (.string s')).heap[g]? = some (.cells #[.string s', .bool b] 167 (0, 0)) ∧ (w.setCell ⟨g, 1, none⟩ (.bool b')).heap[g]? = some (.cells #[.string s, .bool b'] 167 (0, 0)) :=
  ⟨by rw [Jg.setCell_heap h]; rfl, by rw [Jg.setCell_heap h]; rfl⟩
theorem gb_refl (w : World) (r : Option Nat) : w.grownBy w r := ⟨rfl, rfl, rfl, Nat.le_refl _, fun _ _ _ => rfl⟩
theorem gb_trans {a b c : World} {r : Option Nat} (h : a.grownBy b r) (k : b.grownBy c r) : a.grownBy c r :=
  ⟨k.os.trans h.os, k.tape.trans h.tape, k.output.trans h.output, Nat.le_trans h.size k.size, fun i hi hne => (k.block i (Nat.lt_of_lt_of_le hi h.size) hne).trans (h.block i hi hne)⟩
theorem gb_set (w : World) (g o : Nat) (v : Value) : w.grownBy (w.setCell ⟨g, o, none⟩ v) (some g) :=
  ⟨rfl, rfl, rfl, by show _ ≤ (w.heap.modify g _).size; simp, fun i _ hne => Bd.scne (fun e => hne (by rw [e])) _ _⟩
set_option maxRecDepth 100000 in
set_option maxHeartbeats 3200000 in
theorem wide_bad {w : World} {g : Nat} {s : ByteArray} (hr : w.heap[g]? = some (.cells #[.string s, .bool true] 167 (0, 0))) :
    Calls Tryd.prog 82 #[.pointer (some ⟨g, 0, none⟩)] w fun e w' => e = .returned (.int .u64 0) ∧ Rd w' g none ∧ w.grownBy w' (some g) := by
  have c0 : w.cell? ⟨g, 0, none⟩ = some (.string s) := by simp [World.cell?, hr]
  have c1 : w.cell? ⟨g, 1, none⟩ = some (.bool true) := by simp [World.cell?, hr]
  have cg : g < w.heap.size := (Array.getElem?_eq_some_iff.1 hr).1
  have f0 : w.frozen? ⟨g, 0, none⟩ = false := by simp [World.frozen?, hr]
  have f1 : w.frozen? ⟨g, 1, none⟩ = false := by simp [World.frozen?, hr]
  obtain ⟨W1, HW1⟩ : ∃ W, Hid (w.setCell ⟨g, 1, none⟩ (.bool true) = W) := ⟨_, rfl⟩
  have HF : Hid (Rd W1 g none ∧ w.grownBy W1 (some g)) := by
    refine ⟨?_, ?_⟩
    · rw [← HW1.out]; exact ⟨s, true, (rd_set (s' := s) hr).2, rfl⟩
    · rw [← HW1.out]; exact gb_set _ _ _ _
  obtain ⟨N, hN⟩ : ∃ N, s.size = N := ⟨_, rfl⟩
  clear hr
  go_enter Tryd.func82, Tryd.ntmps82
  go_wp2_with fail
  go_loopw [3, 4, 5, 6] (fun uv bv cv gv wr => uv = .int .u64 0 ∧ bv = .int .i64 0 ∧ wr = w) (fun _ _ _ _ _ => 0)
  case atStart => exact ⟨rfl, rfl, rfl⟩
  case round =>
    obtain ⟨rfl, rfl, rfl⟩ := hrel
    by_cases hlt : 0 < N
    · have q1 : (0 : Int) < (N : Int) := by omega
      go_wp2_with (first | (rw [HW1.out]) | fail)
      go_ret
      exact ⟨rfl, HF.out.1, HF.out.2⟩
    · have q1 : N = 0 := by omega
      subst q1
      go_wp2_with (first | (rw [HW1.out]) | fail)
      go_ret
      exact ⟨rfl, HF.out.1, HF.out.2⟩
/-- what a group is behind its shift, and shifted back -/
def shS (G k : Nat) : Nat := G * 128 ^ k % 18446744073709551616
def shR (G k : Nat) : Nat := shS G k / 128 ^ k
theorem pw (k : Nat) : (2 : Int) ^ (7 * k) = ((128 ^ k : Nat) : Int) := by
  rw [Int.pow_mul, Int.natCast_pow]; rfl
theorem shS_low {G k : Nat} (hG : G < 128) (hk : k ≤ 8) : shS G k = G * 128 ^ k := by
  unfold shS
  apply Nat.mod_eq_of_lt
  have : (128 : Nat) ^ k ≤ 128 ^ 8 := Nat.pow_le_pow_right (by decide) hk
  have h8 : (128 : Nat) ^ 8 = 72057594037927936 := by decide
  have : G * 128 ^ k ≤ 127 * 72057594037927936 := Nat.mul_le_mul (by omega) (by omega)
  omega
theorem shS_nine (G : Nat) : shS G 9 = G % 2 * 9223372036854775808 := by
  unfold shS
  have : (128 : Nat) ^ 9 = 9223372036854775808 := by decide
  rw [this]; omega
theorem shR_eq {G k : Nat} (hG : G < 128) (hk : k ≤ 9) (hn : ¬ (k = 9 ∧ 1 < G)) : shR G k = G ∧ shS G k = G * 128 ^ k := by
  have hp : 0 < (128 : Nat) ^ k := Nat.pow_pos (by decide)
  rcases Nat.lt_or_ge k 9 with h | h
  · have hs := shS_low hG (show k ≤ 8 by omega)
    exact ⟨by unfold shR; rw [hs, Nat.mul_div_cancel _ hp], hs⟩
  · obtain rfl : k = 9 := by omega
    have h2 : G % 2 = G := by omega
    have hs := shS_nine G
    have h9 : (128 : Nat) ^ 9 = 9223372036854775808 := by decide
    rw [h2, ← h9] at hs
    exact ⟨by unfold shR; rw [hs, Nat.mul_div_cancel _ hp], hs⟩
theorem shR_ne {G : Nat} (hG : 1 < G) : shR G 9 ≠ G := by
  unfold shR
  rw [shS_nine, show (128 : Nat) ^ 9 = 9223372036854775808 by decide, Nat.mul_div_cancel _ (by decide)]
  omega
theorem cut_one {s : ByteArray} {c : UInt8} {tl : List UInt8} (h : s.data.toList = c :: tl) : (s.extract 1 s.size).data.toList = tl := by
  have h9 : (s.extract 1 s.size).data.toList = (s.data.toList.drop 1).take (s.size - 1) := by simp [ByteArray.data_extract]
  have h8 : s.size = tl.length + 1 := by
    have : s.size = s.data.toList.length := by simp
    rw [this, h]; rfl
  rw [h9, h, h8]
  show tl.take (tl.length + 1 - 1) = tl
  rw [Nat.add_sub_cancel, List.take_length]
theorem shS_lt (G k : Nat) : shS G k < 18446744073709551616 := Nat.mod_lt _ (by decide)
theorem wrap_sh (G k : Nat) : IntKind.u64.wrap ((G : Int) * 2 ^ (7 * k)) = (shS G k : Int) := by
  rw [pw]
  have wr64 : ∀ z : Int, IntKind.u64.wrap z = z % 18446744073709551616 := fun z => by
    first
      | rfl
      | (simp [IntKind.wrap, IntKind.signed, IntKind.bits])
  rw [wr64, ← Int.natCast_mul]; unfold shS
  generalize G * 128 ^ k = n
  omega
theorem div_sh (G k : Nat) : (shS G k : Int) / 2 ^ (7 * k) = (shR G k : Int) := by
  rw [pw]; unfold shR
  rw [Int.natCast_ediv]
theorem or_sh {u G k : Nat} (hu : u < 128 ^ k) (hk : k ≤ 9) (hG : G < 128) (hs : shS G k = G * 128 ^ k) : bits .or .u64 (u : Int) (shS G k : Int) = ((u + G * 128 ^ k : Nat) : Int) := by
  have h9 : (128 : Nat) ^ k ≤ 128 ^ 9 := Nat.pow_le_pow_right (by decide) hk
  have : (128 : Nat) ^ 9 = 9223372036854775808 := by decide
  rw [u64_or_nat u (shS G k) (by omega) (shS_lt _ _), hs, Nat.or_comm]
  have h7 : (128 : Nat) ^ k = 2 ^ (7 * k) := by rw [Nat.pow_mul]
  rw [Nat.mul_comm, h7, Jk.or_add G u (7 * k) (by rw [← h7]; exact hu)]
  congr 1; omega
end Go.Proofs.YtabmpngliphdpaaDoor.Jl
