/- Encode, two halves. -/
import Derived.Test.YtkleoklcaalogaaEn
namespace Go.Proofs.Ytkleoklcaalogaa.Eo
set_option linter.unusedVariables false
open Go.RowKit Pla Bm Bn Br Bv Bw Bx Hf Wr Wt En
set_option maxRecDepth 100000 in
set_option maxHeartbeats 600000 in
theorem encode_two (enc : Int) (F S : Nat) (hF : F < 9223372036854775808) (hS : S < 9223372036854775808) (h0 : S ≠ 0) (hw : ((widthN enc : Int) == 0) = false) (w : World) :
    Calls Try.prog 19 #[.int .i64 enc, .agg #[.int .u64 (F : Int), .int .u64 (S : Int)]] w fun e w' => e = .returned (.tuple #[.string ⟨(wrL enc (hb (F + 9223372036854775808)) ++ wrL enc (hb S)).toArray⟩, .int .i64 0]) ∧ Below w.heap.size w w' := by
  have hr : (decide (F < 9223372036854775808) && decide (S < 9223372036854775808)) = true := by simp [hF, hS]
  have q0 : ((S : Int) == 0) = false := beq_eq_false_iff_ne.mpr (by omega)
  have rt := fun w => right_any F S (by omega) (by omega) w
  rw [hr] at rt
  have u1 := or_hi F hF
  generalize F + 9223372036854775808 = G at *
  have zA := wrL_size enc (Hf.hb G)
  have zB := wrL_size enc (Hf.hb S)
  have p1 := fun w => halfOf_any G w
  have p2 := fun w => write_any enc (Hf.hb G) (hb_lt G) w
  have p3 := fun w => halfOf_any S w
  have p4 := fun w => write_any enc (Hf.hb S) (hb_lt S) w
  rw [← ByteArray.mk_append_mk]
  generalize byC 8 (Hf.hb G) = CA at *
  generalize byC 8 (Hf.hb S) = CB at *
  generalize ByteArray.mk (wrL enc (Hf.hb G)).toArray = A at *
  generalize ByteArray.mk (wrL enc (Hf.hb S)).toArray = B at *
  have nl : ¬ (9223372036854775807 < A.size + B.size) := by omega
  clear hF hS h0 zA zB
  go_enter Try.func19, Try.ntmps19
  go_wp2_with (first
    | (go_at_call 33; refine (width_any _ _).mono ?_; rintro e x ⟨rfl, rfl⟩)
    | (go_at_call 23; refine (rt _).mono ?_; rintro e x ⟨rfl, hb⟩; obtain ⟨c0, c1, f0, f1⟩ := held2 hb (h1_0 w _)))
  have lt : w.heap.size < x.heap.size := by have := hb.size; simp at this; omega
  go_region_held3 (fun w' => w'.cell? ⟨w.heap.size, 0, none⟩ = some (.int .u64 (F : Int)) ∧ w'.cell? ⟨w.heap.size, 1, none⟩ = some (.int .u64 (S : Int)) ∧ Below x.heap.size x w') (refine ⟨?_, ?_, ?_⟩ <;> first | assumption | exact (Below.refl _ _).drew | (go_keep; done))
    (first
      | (go_at_call_of 34 (Value.int IntKind.u64 (G : Int)); refine (p1 _).mono ?_; rintro e y ⟨rfl, hc⟩; have hy : Below x.heap.size x y := keepB (And.right (And.right (by assumption))) hc; have y0 := keepC hy c0 lt; have y1 := keepC hy c1 lt)
      | (go_at_call_of 34 (Value.int IntKind.u64 (S : Int)); refine (p3 _).mono ?_; rintro e y ⟨rfl, hc⟩; have hy : Below x.heap.size x y := keepB (And.right (And.right (by assumption))) hc; have y0 := keepC hy c0 lt; have y1 := keepC hy c1 lt)
      | (go_at_call_of 35 (Value.agg CA); refine (p2 _).mono ?_; rintro e y ⟨rfl, hc⟩; have hy : Below x.heap.size x y := keepB (And.right (And.right (by assumption))) hc; have y0 := keepC hy c0 lt; have y1 := keepC hy c1 lt)
      | (go_at_call_of 35 (Value.agg CB); refine (p4 _).mono ?_; rintro e y ⟨rfl, hc⟩; have hy : Below x.heap.size x y := keepB (And.right (And.right (by assumption))) hc; have y0 := keepC hy c0 lt; have y1 := keepC hy c1 lt))
  go_wp2
  go_ret2
  exact ⟨rfl, keepB (keepB (below_one w _) hb) hy⟩
/-- Encode's answer -/
def encV (enc : Int) (F S : Nat) : List UInt8 × Int := if widthN enc = 0 ∨ rightB F S = false then ([], 1) else (encL enc F S, 0)
theorem encode_any (enc : Int) (F S : Nat) (hF : F < 18446744073709551616) (hS : S < 18446744073709551616) (w : World) :
    Calls Try.prog 19 #[.int .i64 enc, .agg #[.int .u64 (F : Int), .int .u64 (S : Int)]] w fun e w' => e = .returned (.tuple #[.string ⟨(encV enc F S).1.toArray⟩, .int .i64 (encV enc F S).2]) ∧ Below w.heap.size w w' := by
  by_cases hw : widthN enc = 0
  · rw [encV, if_pos (Or.inl hw)]; exact encode_bad1 enc F S hw w
  · have hw' : ((widthN enc : Int) == 0) = false := beq_eq_false_iff_ne.mpr (by omega)
    cases hr : rightB F S
    · rw [encV, if_pos (Or.inr hr)]; exact encode_bad2 enc F S hF hS hw' hr w
    · have h2 : F < 9223372036854775808 ∧ S < 9223372036854775808 := by simpa [rightB] using hr
      rw [encV, if_neg (by simp [hw, hr]), encL]
      by_cases h0 : S = 0
      · subst h0; rw [if_pos rfl]; exact encode_one enc F h2.1 hw' w
      · rw [if_neg h0]; exact encode_two enc F S h2.1 h2.2 h0 hw' w
end Go.Proofs.Ytkleoklcaalogaa.Eo
