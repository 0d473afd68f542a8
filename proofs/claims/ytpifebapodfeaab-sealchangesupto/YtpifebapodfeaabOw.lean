/- What SealOwn asks. -/
import Derived.Test.YtpifebapodfeaabSr
import Derived.Test.YtpifebapodfeaabFt
namespace Go.Proofs.Ytpifebapodfeaab.Ow
set_option linter.unusedVariables false
open Go.RowKit Pla Cb Fp Sp Pe Se Tg Sd Sq Sr
theorem u8_wf {a : Int} (h : (Lit.int .u8 a).wf = true) : ∃ c : UInt8, a = (c.toNat : Int) := by
  have hb : 0 ≤ a ∧ a ≤ 255 := by simp [Lit.wf, IntKind.min, IntKind.max, IntKind.signed, IntKind.bits] at h; omega
  refine ⟨UInt8.ofNat a.toNat, ?_⟩
  have : a.toNat < 256 := by omega
  simp [Nat.mod_eq_of_lt this]; omega
theorem xor_ne (x c : UInt8) (h : c ≠ 0) : x ^^^ c ≠ x := by
  intro e
  apply h
  have : x ^^^ (x ^^^ c) = x ^^^ x := by rw [e]
  rw [← UInt8.xor_assoc, UInt8.xor_self, UInt8.zero_xor] at this
  exact this
theorem size_ne (a b : ByteArray) (h : a.size ≠ b.size) : (a.toList == b.toList) = false := (Lib.bytes_beq_false_iff a b).2 fun e => h (by rw [e])
theorem bad_ne (T : ByteArray) (i : Nat) (h : i < T.size) (v : UInt8) (hv : v ≠ T[i]) : (T.toList == (T.extract 0 i ++ ⟨#[v]⟩ ++ T.extract (i + 1) T.size).toList) = false := by
  refine (Lib.bytes_beq_false_iff _ _).2 fun e => hv ?_
  have e2 := congrArg (fun b : ByteArray => b.data.toList[i]?) e
  have hl : i < T.data.toList.length := by simpa using h
  have l1 : (T.data.toList.take i).length = i := by rw [List.length_take]; omega
  have e3 : (T.extract 0 i ++ ⟨#[v]⟩ ++ T.extract (i + 1) T.size).data.toList[i]? = some v := by
    have : (T.extract 0 i ++ ⟨#[v]⟩ ++ T.extract (i + 1) T.size).data.toList = T.data.toList.take i ++ (v :: (T.extract (i + 1) T.size).data.toList) := by simp
    rw [this, List.getElem?_append_right (by omega), l1, Nat.sub_self]; rfl
  simp only [e3] at e2
  rw [List.getElem?_eq_getElem hl] at e2
  injection e2 with e2
  exact e2.symm
theorem conv1 (w : World) (v : UInt8) : (convert 32 9 (.slice (some ⟨w.heap.size, 0, Option.none⟩) 1 1)).run Try.prog ((w.alloc (Obj.cells #[.int .u8 (v.toNat : Int)] 5)).drew) = .ok (.string ⟨#[v]⟩) ((w.alloc (Obj.cells #[.int .u8 (v.toNat : Int)] 5)).drew) :=
  Pd.R_str (P := Try.prog) (w := (w.alloc (Obj.cells #[.int .u8 (v.toNat : Int)] 5)).drew) (src := 32) (dst := 9) (e := 5) (l := [v]) Try.underlying32 Try.underlying5 Try.underlying9 (h1_0 w (Obj.cells #[.int .u8 (v.toNat : Int)] 5)) 1
theorem slots_below {a w : World} {b d n : Nat} {f : Nat → Option Held} (h : Below a.heap.size a w) (hS : Slots a b d n f) : Slots w b d n f := by
  obtain ⟨hm, n1, n2, A, hr⟩ := hS
  exact ⟨Cb.kept h hm, n1, n2, A, (Fr.of (b := b) (d := d) h).row hm hr (Cb.kept h hr.2.1)⟩
end Go.Proofs.Ytpifebapodfeaab.Ow
