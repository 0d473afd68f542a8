/- journal: word, wordOf. -/
import Derived.Test.YtabmpngliphdpaaDoorJb
import Derived.Laws.IdiomStrings
namespace Go.Proofs.YtabmpngliphdpaaDoor.Jd
set_option linter.unusedVariables false
set_option linter.unusedSimpArgs false
open Go.RowKit Lib0 Kb Ja Jb
attribute [local go_sem] Oper.semAt_some
/-- a number in four bytes, the highest first -/
def w4 (n : Nat) : List UInt8 := [UInt8.ofNat (n / 16777216), UInt8.ofNat (n / 65536), UInt8.ofNat (n / 256), UInt8.ofNat n]
theorem w4_len (n : Nat) : (w4 n).length = 4 := rfl
theorem conv4 (x : World) (n : Nat) (hn : n < 4294967296) :
    (convert 75 9 (.slice (some ⟨x.heap.size, 0, none⟩) 4 4)).run Tryd.prog (x.alloc (.cells #[.int .u8 ((n : Int) / 16777216), .int .u8 ((n : Int) / 65536 % 256), .int .u8 ((n : Int) / 256 % 256), .int .u8 ((n : Int) % 256)] 5)) = .ok (.string ⟨(w4 n).toArray⟩) (x.alloc (.cells #[.int .u8 ((n : Int) / 16777216), .int .u8 ((n : Int) / 65536 % 256), .int .u8 ((n : Int) / 256 % 256), .int .u8 ((n : Int) % 256)] 5)) := by
  have h := h1_0 x (.cells #[.int .u8 ((n : Int) / 16777216), .int .u8 ((n : Int) / 65536 % 256), .int .u8 ((n : Int) / 256 % 256), .int .u8 ((n : Int) % 256)] 5)
  refine run_convert_bytes_back _ 75 9 5 ⟨x.heap.size, 0, none⟩ 4 (w4 n) Tryd.underlying75 Tryd.underlying5 Tryd.underlying9 (fun j hj => ?_)
  rw [show (⟨x.heap.size, 0, none⟩ : Addr).add j = ⟨x.heap.size, j, none⟩ by unfold Addr.add; split <;> simp_all]
  unfold World.cell?
  rw [h]
  match j, hj with
  | 0, _ => simp [w4]; omega
  | 1, _ => simp [w4]
  | 2, _ => simp [w4]
  | 3, _ => simp [w4]
set_option maxRecDepth 100000 in
theorem word_any (n : Nat) (hn : n < 4294967296) (w : World) : Calls Tryd.prog 59 #[.int .u32 (n : Int)] w fun e w' => e = .returned (.string ⟨(w4 n).toArray⟩) ∧ Below w.heap.size w w' := by
  have cv := conv4 w n hn
  have HB : Hid (Below w.heap.size w (w.alloc (.cells #[.int .u8 ((n : Int) / 16777216), .int .u8 ((n : Int) / 65536 % 256), .int .u8 ((n : Int) / 256 % 256), .int .u8 ((n : Int) % 256)] 5))) := below_one _ _
  have q0 : (n : Int) / 16777216 % 256 = (n : Int) / 16777216 := by omega
  go_enter Tryd.func59, Tryd.ntmps59
  go_wp2_with fail
  go_ret
  exact ⟨rfl, HB.out⟩
end Go.Proofs.YtabmpngliphdpaaDoor.Jd
