/- What SealFilled asks, out of the contracts. -/
import Derived.Test.YtpifebapodfeaaaTg
import Derived.Test.YtpifebapodfeaaaFt
import Derived.Test.YtpifebapodfeaaaSa
namespace Go.Proofs.Ytpifebapodfeaaa.Fl
set_option linter.unusedVariables false
open Go.RowKit Cb Fp Sp Pe Tg
def Ret2 (s : ByteArray) (w : World) : Ending → World → Prop := fun e w' => e = .returned (.tuple #[.string s, .int .i64 0]) ∧ Below w.heap.size w w'
theorem fill_beq (a b : ByteArray) : ((fillB 2 a).toList == (fillB 2 b).toList) = (a.toList == b.toList) := by
  by_cases h : a = b
  · rw [h, beq_self_eq_true, beq_self_eq_true]
  · rw [(Lib.bytes_beq_false_iff a b).2 h, (Lib.bytes_beq_false_iff _ _).2]
    intro e
    apply h
    have e2 := congrArg (fun b : ByteArray => b.data.toList) e
    simp only [fillB_list] at e2
    have e3 := fill2_inj _ _ e2
    rw [← mk_eq a, ← mk_eq b, e3]
theorem fill_noughts (a : ByteArray) (p : Nat) (hp : p ≤ 8 * nb a.size - a.size) : fillB 1 (a ++ zs p) = fillB 1 a := by
  have h := padL_noughts a.data.toList p (by rw [len_size]; omega)
  have hd : (a ++ zs p).data.toList = a.data.toList ++ List.replicate p 0 := by simp [zs]
  rw [fillB, fillB, hd, fillL, if_neg (by decide), h, fillL, if_neg (by decide)]
theorem tag_fill (r s t : ByteArray) (h : fillB 1 s = fillB 1 t) : tagB 1 1 r s = tagB 1 1 r t := by
  have h2 := congrArg (fun b : ByteArray => b.data.toList) h
  simp only [fillB_list] at h2
  rw [tagB, tagB, h2]
theorem tag_filled (r a : ByteArray) : tagB 1 1 r (fillB 2 a) = tagB 1 2 r a := by
  rw [tagB, tagB, fillB_list]
  have : fillL 1 (fillL 2 a.data.toList) = fillL 2 a.data.toList := by
    simp only [fillL, if_neg (show ¬ 1 = 2 by decide), if_pos]
    exact padL_padL _
  rw [this]
theorem all (a b : ByteArray) (ha : a.size ≤ 1048576) (hb : b.size ≤ 1048576) : ∃ (X Y P : ByteArray) (k : Nat), k ≤ 8 ∧ P.size = a.size + k ∧ (X.toList == Y.toList) = (a.toList == b.toList) ∧
    (∀ y, Calls Try.prog 8 #[.int .i64 2, .string a] y (Ret2 X y)) ∧ (∀ y, Calls Try.prog 8 #[.int .i64 2, .string b] y (Ret2 Y y)) ∧ (∀ y, Calls Try.prog 8 #[.int .i64 1, .string a] y (Ret2 P y)) ∧
    ∀ p, p ≤ k → (∀ y, Calls Try.prog 8 #[.int .i64 1, .string (a ++ zs p)] y (Ret2 P y)) ∧
      ∀ r : ByteArray, r.size = 8 → ∃ S U : ByteArray, U.size = 8 ∧ (∀ y, Calls Try.prog 11 #[.int .i64 1, .int .i64 1, .string r, .string a] y (Ret2 S y)) ∧ (∀ y, Calls Try.prog 11 #[.int .i64 1, .int .i64 1, .string r, .string (a ++ zs p)] y (Ret2 S y)) ∧
        (∀ y, Calls Try.prog 11 #[.int .i64 1, .int .i64 2, .string r, .string a] y (Ret2 U y)) ∧ (∀ y, Calls Try.prog 11 #[.int .i64 1, .int .i64 1, .string r, .string X] y (Ret2 U y)) := by
  have g1 := nb_ge a.size
  have g2 := nb_le a.size
  have szx : (fillB 2 a).size ≤ 1048600 := by
    rw [fillB_size]
    have := nbM_le 2 a.size
    omega
  refine ⟨fillB 2 a, fillB 2 b, fillB 1 a, 8 * nb a.size - a.size, by omega, by rw [fillB_size]; show 8 * nb a.size = _; omega, fill_beq a b, fun y => pad_good 2 (.inr rfl) a (by omega) y, fun y => pad_good 2 (.inr rfl) b (by omega) y, fun y => pad_good 1 (.inl rfl) a (by omega) y, fun p hp => ⟨fun y => ?_, fun r hr => ⟨tagB 1 1 r a, tagB 1 2 r a, tagB_size _ _ _ _, fun y => ?_, fun y => ?_, fun y => ?_, fun y => ?_⟩⟩⟩
  · have h := pad_good 1 (.inl rfl) (a ++ zs p) (by rw [ByteArray.size_append, zs_size]; omega) y
    rw [fill_noughts a p hp] at h
    exact h
  · exact Tag_good 1 1 (.inl rfl) (.inl rfl) r hr a (by omega) y
  · have h := Tag_good 1 1 (.inl rfl) (.inl rfl) r hr (a ++ zs p) (by rw [ByteArray.size_append, zs_size]; omega) y
    rw [tag_fill r _ _ (fill_noughts a p hp)] at h
    exact h
  · exact Tag_good 1 2 (.inl rfl) (.inr rfl) r hr a (by omega) y
  · have h := Tag_good 1 1 (.inl rfl) (.inl rfl) r hr (fillB 2 a) (by omega) y
    rw [tag_filled r a] at h
    exact h
theorem madeP (w : World) (p : Nat) (hp : p ≤ 9) : (Instr.makeSlice 34 (.int .i64 (p : Int)) (.int .i64 (p : Int))).run Try.prog w = .ok (.slice (some ⟨w.heap.size, 0, none⟩) p p) (w.alloc (Obj.cells (Pd.R (List.replicate p 0)) 5)) := by
  obtain ⟨i0, hi, hz0, hz1, hz2⟩ := info_parts Pd.info
  have h := run_make_row (P := Try.prog) 34 5 i0 _ Try.underlying34 hi hz0 hz1 rfl .i64 .i64 p (by rw [hz2]; omega) (by omega) w
  rw [Pd.R_made] at h
  exact h
theorem convP (w : World) (p : Nat) : (convert 34 9 (.slice (some ⟨w.heap.size, 0, none⟩) p p)).run Try.prog (w.alloc (Obj.cells (Pd.R (List.replicate p 0)) 5)) = .ok (.string (zs p)) (w.alloc (Obj.cells (Pd.R (List.replicate p 0)) 5)) := by
  have h := Pd.R_str (P := Try.prog) (w := w.alloc (Obj.cells (Pd.R (List.replicate p 0)) 5)) (src := 34) (dst := 9) (e := 5) (l := List.replicate p 0) Try.underlying34 Try.underlying5 Try.underlying9 (h1_0 w (Obj.cells (Pd.R (List.replicate p 0)) 5)) p
  rw [List.length_replicate] at h
  exact h
end Go.Proofs.Ytpifebapodfeaaa.Fl
