/- The law's digits. -/
import Derived.Test.YteaanenhefbkjaaDoorTn
import Derived.Laws.IdiomStrings
namespace Go.Proofs.YteaanenhefbkjaaDoor.Tj
set_option linter.unusedVariables false
set_option linter.unusedSimpArgs false
open Go.RowKit Lib0 Kb Xp Ic Ta Tb Tc Td Te Tf Tg Tn Num Chars
attribute [local go_sem] Oper.semAt_some
theorem conv1 (x : World) (z0 : Int) (d0 : Nat) (h0 : d0 < 256) (e0 : z0 = (d0 : Int)) :
    (convert 35 9 (.slice (some ⟨x.heap.size, 0, none⟩) 1 1)).run Tryd.prog (x.alloc (.cells #[.int .u8 z0] 5)) = .ok (.string ⟨#[UInt8.ofNat d0]⟩) (x.alloc (.cells #[.int .u8 z0] 5)) := by
  subst e0
  have h := h1_0 x (.cells #[.int .u8 (d0 : Int)] 5)
  refine run_convert_bytes_back _ 35 9 5 ⟨x.heap.size, 0, none⟩ 1 [UInt8.ofNat d0] Tryd.underlying35 Tryd.underlying5 Tryd.underlying9 (fun j hj => ?_)
  rw [show (⟨x.heap.size, 0, none⟩ : Addr).add j = ⟨x.heap.size, j, none⟩ by unfold Addr.add; split <;> simp_all]
  unfold World.cell?
  rw [h]
  match j, hj with
  | 0, _ => simp [Nat.mod_eq_of_lt h0]
def dgs : Nat → Nat → List UInt8
  | 0, _ => []
  | w + 1, n => dgs w (n / 10) ++ [UInt8.ofNat (48 + n % 10)]
theorem dgs_length : ∀ w n, (dgs w n).length = w
  | 0, _ => rfl
  | w + 1, n => by rw [dgs, List.length_append, dgs_length w]; rfl
set_option maxRecDepth 100000 in
set_option maxHeartbeats 1600000 in
theorem digits_any (n : Nat) (hn : n < 1000000000000) (w : World) : Calls Tryd.prog 17 #[.int .i64 (n : Int)] w fun e w' => e = .returned (.string ⟨(dgs 12 n).toArray⟩) ∧ Below w.heap.size w w' := by
  have HN : Hid (n < 1000000000000) := hn
  clear hn
  go_enter Tryd.func17, Tryd.ntmps17
  go_wp2_with fail
  go_loopw [0, 3, 4] (fun nv kv iv wr => ∃ (i m : Nat) (k : ByteArray), iv = .int .i64 (i : Int) ∧ nv = .int .i64 (m : Int) ∧ kv = .string k ∧ Hid (i ≤ 12 ∧ m ≤ n ∧ dgs (12 - i) m ++ k.data.toList = dgs 12 n) ∧ Hid (Below w.heap.size w wr)) (fun _ _ iv _ => 13 - (intOf iv).toNat)
  case atStart => exact ⟨0, n, ⟨#[]⟩, rfl, rfl, rfl, ⟨by omega, Nat.le_refl _, by simp⟩, Below.refl _ _⟩
  case round =>
    obtain ⟨i, m, k, rfl, rfl, rfl, HK, HB⟩ := hrel
    have hk := HK.out
    by_cases hi : i < 12
    · have hks : k.size ≤ 12 := by
        have h1 := congrArg List.length hk.2.2
        rw [List.length_append, dgs_length, dgs_length] at h1
        have h3 : k.data.toList.length = k.size := by rw [Array.length_toList]; rfl
        omega
      have hcv := conv1 wr (48 + (m : Int) % 10) (48 + m % 10) (by omega) (by push_cast; rfl)
      have HB2 : Hid (Below w.heap.size w (wr.alloc (.cells #[.int .u8 (48 + (m : Int) % 10)] 5))) := keepB HB.out (below_one _ _)
      have q0 : (i : Int) < 12 := by omega
      have q1 : (0 : Int) ≤ (i : Int) := by omega
      have q2 : (i : Int) + 1 ≤ 9223372036854775807 := by omega
      have q3 : (0 : Int) ≤ (m : Int) := by omega
      have q4 : (m : Int) ≤ 9223372036854775807 := by have := HN.out; omega
      have HI : Hid (i < 12) := hi
      clear hk hi
      go_wp2_with fail
      have hdv : ((m : Int) / 10) = ((m / 10 : Nat) : Int) := by omega
      refine ⟨⟨i + 1, m / 10, _, by simp, by rw [hdv], rfl, ⟨by have := HI.out; omega, by have := HK.out; omega, ?_⟩, HB2.out⟩, ?_⟩
      · have h5 := HK.out.2.2
        rw [show 12 - i = (12 - (i + 1)) + 1 by have := HI.out; omega, dgs] at h5
        rw [← h5, ByteArray.data_append]
        simp
      · have := HI.out
        simp only [intOf]; omega
    · obtain rfl : i = 12 := by omega
      have hkk : k = ⟨(dgs 12 n).toArray⟩ := by
        have h1 := hk.2.2
        rw [Nat.sub_self, dgs, List.nil_append] at h1
        rw [← h1]
      subst hkk
      clear hk hi
      go_wp2_with fail
      go_ret
      exact ⟨rfl, HB.out⟩
end Go.Proofs.YteaanenhefbkjaaDoor.Tj
