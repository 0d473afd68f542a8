/- 'string([]byte{..})' of one or two bytes. -/
import Derived.Test.YtmgnmkolijaidaaDoorNum
namespace Go.Proofs.YtmgnmkolijaidaaDoor.Lib1
open Go.RowKit Lib0
theorem run_one (w : World) (b : UInt8) : (convert 43 9 (.slice (some ⟨w.heap.size, 0, none⟩) 1 1)).run Tryd.prog (w.alloc (.cells #[.int .u8 (b.toNat : Int)] 5)) = .ok (.string ⟨#[b]⟩) (w.alloc (.cells #[.int .u8 (b.toNat : Int)] 5)) :=
  run_convert_bytes_back (P := Tryd.prog) _ 43 9 5 ⟨w.heap.size, 0, none⟩ 1 [b] Tryd.underlying43 Tryd.underlying5 Tryd.underlying9 (Lib.bytes_of_row (heap_alloc_new w _) rfl)
theorem run_one_int (w : World) (x : Int) (b : UInt8) (h : x = (b.toNat : Int)) : (convert 43 9 (.slice (some ⟨w.heap.size, 0, none⟩) 1 1)).run Tryd.prog (w.alloc (.cells #[.int .u8 x] 5)) = .ok (.string ⟨#[b]⟩) (w.alloc (.cells #[.int .u8 x] 5)) := by subst h; exact run_one w b
theorem run_two_int (w : World) (x y : Int) (b c : UInt8) (h : x = (b.toNat : Int)) (h2 : y = (c.toNat : Int)) : (convert 43 9 (.slice (some ⟨w.heap.size, 0, none⟩) 2 2)).run Tryd.prog (w.alloc (.cells #[.int .u8 x, .int .u8 y] 5)) = .ok (.string ⟨#[b, c]⟩) (w.alloc (.cells #[.int .u8 x, .int .u8 y] 5)) := by
  subst h h2
  exact run_convert_bytes_back (P := Tryd.prog) _ 43 9 5 ⟨w.heap.size, 0, none⟩ 2 [b, c] Tryd.underlying43 Tryd.underlying5 Tryd.underlying9 (Lib.bytes_of_row (heap_alloc_new w _) rfl)
theorem u8_of (n : Nat) (h : n < 256) : ((n : Nat) : Int) = ((n.toUInt8.toNat : Nat) : Int) := by simp only [UInt8.toNat_ofNat', Nat.toUInt8]; omega
end Go.Proofs.YtmgnmkolijaidaaDoor.Lib1
