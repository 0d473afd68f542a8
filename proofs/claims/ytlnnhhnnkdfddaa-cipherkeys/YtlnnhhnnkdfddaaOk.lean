/- The document's Check. -/
import Derived.Test.YtlnnhhnnkdfddaaOw
import Derived.Test.YtlnnhhnnkdfddaaOr
import Derived.Test.YtlnnhhnnkdfddaaRu
namespace Go.Proofs.Ytlnnhhnnkdfddaa.Ok
set_option linter.unusedVariables false
open Go.RowKit Pla Cb Tk Sm Wd Nw Bk Eb Et Xo Od Wk
open Rl (cph cph_len)
theorem z_str : (⟨(byW Ck.z64).toArray⟩ : ByteArray) = ⟨#[0, 0, 0, 0, 0, 0, 0, 0]⟩ := by kernel_rfl
theorem three (l : List UInt8) : (⟨l.toArray⟩ : ByteArray).extract 0 3 = ⟨(l.take 3).toArray⟩ := by
  apply ByteArray.ext
  rw [ByteArray.data_extract]
  simp
theorem kind_size (n : Nat) (h : ¬ kindN n = 0) : n = 8 ∨ n = 16 ∨ n = 24 := by
  unfold kindN at h
  split at h
  · omega
  · split at h
    · omega
    · split at h <;> omega
set_option maxRecDepth 100000 in
set_option maxHeartbeats 1600000 in
theorem check_ref0 (s : ByteArray) (hz : kindN s.size = 0) (w : World) :
    Calls Try.prog 18 #[.string s] w fun e w' => e = .returned (.tuple #[.string ⟨#[]⟩, .int .i64 30]) ∧ w' = w := by
  have LE := fun u => Rl.length_ref s u
  have el : Rl.lenB s.size = false := by rw [Rl.len_kind, hz]; rfl
  rw [el] at LE
  clear el hz
  go_enter Try.func18, Try.ntmps18
  go_wp2_with (go_at_call 11; refine (LE _).mono ?_; rintro e x3 ⟨rfl, hx3⟩; rw [hx3])
  exact bodyPost_ret (v := .tuple #[.string ⟨#[]⟩, .int .i64 30]) (by simp [results, Try.results18, go_sem]) rfl ⟨rfl, rfl⟩
set_option maxRecDepth 100000 in
set_option maxHeartbeats 1600000 in
theorem check_ref (s : ByteArray) (hz : ¬ kindN s.size = 0) (w : World) :
    Calls Try.prog 18 #[.string s] w fun e w' => e = .returned (.tuple #[.string ⟨((byW (enc s.data.toList Ck.z64)).take 3).toArray⟩, .int .i64 0]) ∧ Below w.heap.size w w' := by
  have LE := fun u => Rl.length_ref s u
  have el : Rl.lenB s.size = true := by rw [Rl.len_kind]; simp [hz]
  rw [el] at LE
  have BL := fun u => Ru.block_any s (kind_size _ hz) Ck.z64 rfl false u
  rw [z_str, show cph s.data.toList false Ck.z64 = enc s.data.toList Ck.z64 from rfl] at BL
  rw [← three]
  have el2 : (enc s.data.toList Ck.z64).length = 64 := enc_len _ _
  have hb8 : 3 ≤ (⟨(byW (enc s.data.toList Ck.z64)).toArray⟩ : ByteArray).size := by
    have : (byW (enc s.data.toList Ck.z64)).length = 8 := by simp [byW]
    show 3 ≤ (byW (enc s.data.toList Ck.z64)).toArray.size
    simp [this]
  generalize (⟨(byW (enc s.data.toList Ck.z64)).toArray⟩ : ByteArray) = B at *
  have b1 : (3 : Int) ≤ (B.size : Int) := by omega
  clear el hz el2 hb8
  go_enter Try.func18, Try.ntmps18
  go_wp2_with (first
    | (go_at_call 11; refine (LE _).mono ?_; rintro e x3 ⟨rfl, hx3⟩; rw [hx3])
    | (go_at_call 39; refine (BL _).mono ?_; rintro e x4 ⟨rfl, h4⟩))
  exact bodyPost_ret (v := .tuple #[.string (B.extract 0 3), .int .i64 0]) (by simp [results, Try.results18, go_sem]) rfl ⟨rfl, h4⟩
end Go.Proofs.Ytlnnhhnnkdfddaa.Ok
