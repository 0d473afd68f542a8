/- journal.writeText. -/
import Derived.Test.YtabmpngliphdpaaDoorJi
namespace Go.Proofs.YtabmpngliphdpaaDoor.Jj
set_option linter.unusedVariables false
set_option linter.unusedSimpArgs false
open Go.RowKit Lib0 Kb Bd Ji
attribute [local go_sem] Oper.semAt_some
/-- a text: how long it is, and its bytes, but no more than a body may have, and one -/
def encT (s : ByteArray) : List UInt8 := encN (s.size : Int) ++ (s.extract 0 (min s.size 10000001)).data.toList
theorem wn_one {w : World} {B b : Nat} {l : List UInt8} (h : Is w B b l) (n : Int) (hn : -9223372036854775808 ≤ n ∧ n ≤ 9223372036854775807) (hl : l.length ≤ 35184372088832) (hB : B ≤ w.heap.size) :
    Calls Tryd.prog 55 #[.pointer (some ⟨b, 0, none⟩), .slice (some ⟨w.heap.size, 0, none⟩) 1 1] (w.alloc (.cells #[.int .i64 n] 3)) fun e w' => e = .returned (.tuple #[]) ∧ Is w' B b (l ++ encN n) ∧ Ch B w w' := by
  have hb := below_one w (.cells #[.int .i64 n] 3)
  refine (writeNumbers_any (h.below hb) w.heap.size [n] (h1_0 _ _) (fun m hm => by rw [List.mem_singleton] at hm; subst hm; exact hn) (by simp) hl).mono ?_
  rintro e y ⟨he, h1, h2⟩
  refine ⟨he, ?_, (ch_below hb hB).trans h2⟩
  simpa [encL] using h1
set_option maxRecDepth 100000 in
set_option maxHeartbeats 1600000 in
theorem writeText_any {w : World} {B b : Nat} {l : List UInt8} (h : Is w B b l) (s : ByteArray) (hs : s.size ≤ 4611686018427387904) (hl : l.length ≤ 17592186044416) (hB : B ≤ w.heap.size) :
    Calls Tryd.prog 56 #[.pointer (some ⟨b, 0, none⟩), .string s] w fun e w' => e = .returned (.tuple #[]) ∧ Is w' B b (l ++ encT s) ∧ Ch B w w' := by
  have HW := wn_one h (s.size : Int) (by omega) (by omega) hB
  have HWN : Hid (Calls Tryd.prog 55 #[.pointer (some ⟨b, 0, none⟩), .slice (some ⟨w.heap.size, 0, none⟩) 1 1] (w.alloc (.cells #[.int .i64 (s.size : Int)] 3)) fun e w' => e = .returned (.tuple #[]) ∧ Is w' B b (l ++ encN (s.size : Int)) ∧ Ch B w w') := HW
  clear HW
  obtain ⟨K, hK⟩ : ∃ K, min s.size 10000001 = K := ⟨_, rfl⟩
  have hk1 : min (s.size : Int) 10000001 = (K : Int) := by omega
  have hk2 : (K : Int) ≤ (s.size : Int) := by omega
  have hk3 : (0 : Int) ≤ (K : Int) := by omega
  have hks : K ≤ 10000001 := by omega
  have hex : (s.extract 0 K).size ≤ 10000001 := by rw [ByteArray.size_extract]; omega
  have HX : Hid (encT s = encN (s.size : Int) ++ (s.extract 0 K).data.toList ∧ (s.extract 0 K).size ≤ 10000001 ∧ l.length ≤ 17592186044416) := ⟨by unfold encT; rw [hK], hex, hl⟩
  clear h hs hl hB hK hks hex
  go_enter Tryd.func56, Tryd.ntmps56
  go_wp2_with fail
  refine HWN.out.mono ?_
  rintro e y ⟨rfl, hy1, hy2⟩
  have hel : (encN (s.size : Int)).length ≤ 10 := encU_len 9 _
  have HW2 := writeString_any hy1 (s.extract 0 K) (by rw [List.length_append]; have := HX.out; omega)
  have HWS : Hid (Calls Tryd.prog 58 #[.pointer (some ⟨b, 0, none⟩), .string (s.extract 0 K)] y fun e w' => e = .returned (.tuple #[.int .i64 ((s.extract 0 K).size : Int), .nilIface]) ∧ Is w' B b (l ++ encN (s.size : Int) ++ (s.extract 0 K).data.toList) ∧ Ch B y w') := HW2
  have HY : Hid (Ch B w y) := hy2
  clear hy1 hy2 HW2 hel
  go_wp2_with fail
  refine HWS.out.mono ?_
  rintro e y2 ⟨rfl, h1, h2⟩
  have HF : Hid (Is y2 B b (l ++ encT s) ∧ Ch B w y2) := ⟨by rw [HX.out.1, ← List.append_assoc]; exact h1, HY.out.trans h2⟩
  clear h1 h2
  go_wp2_with fail
  go_end0
  exact ⟨rfl, HF.out.1, HF.out.2⟩
end Go.Proofs.YtabmpngliphdpaaDoor.Jj
