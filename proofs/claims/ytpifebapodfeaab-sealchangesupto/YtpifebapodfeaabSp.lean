/- Seal: the tag: plain functions. -/
import Derived.Test.YtpifebapodfeaabPm
import Derived.Test.YtpifebapodfeaabBl
import Derived.Test.YtpifebapodfeaabCk
import Derived.Test.YtpifebapodfeaabFp
namespace Go.Proofs.Ytpifebapodfeaab.Sp
set_option linter.unusedVariables false
open Go.RowKit Pla Cb Wd Nw Bk Eb Et Cc Ch Pm Fp
open Ck (z64)
/-- the last block of the chain, and the tag -/
def lastC (k p : List UInt8) : List Bool := ahd k z64 p (p.length / 8)
theorem z64_len : z64.length = 64 := rfl
theorem lastC_len (k p : List UInt8) : (lastC k p).length = 64 := ahd_len k z64 z64_len p _
def tagC (alg : Nat) (key p : List UInt8) : List Bool := if alg = 3 then enc (key.take 8) (dec (key.drop 8) (lastC (key.take 8) p)) else lastC (key.take 8) p
theorem tagC_len (alg : Nat) (key p : List UInt8) : (tagC alg key p).length = 64 := by
  unfold tagC
  split
  · exact enc_len _ _
  · exact lastC_len _ _
def tagB (alg m : Nat) (key s : ByteArray) : ByteArray := ⟨(byW (tagC alg key.data.toList (fillL m s.data.toList))).toArray⟩
theorem tagB_size (alg m : Nat) (key s : ByteArray) : (tagB alg m key s).size = 8 := by
  show (byW _).toArray.size = 8
  simp [byW_len]
/-- the last eight bytes of the chain -/
theorem chain_last (k p : List UInt8) (N : Nat) (h : p.length = 8 * (N + 1)) : (chainL k z64 p).drop (8 * N) = byW (lastC k p) := by
  have e : p.length / 8 = N + 1 := by omega
  rw [chainL, lastC, e, outN_succ, List.drop_append, outN_len]
  simp [List.drop_of_length_le, outN_len]
theorem map_one (f : List Bool → List Bool) (x : List Bool) (hx : x.length = 64) : mapB f (byW x) = byW (f x) := by
  have e : (byW x).length / 8 = 1 := by rw [byW_len]
  rw [mapB, e, outN_succ]
  have b : blk (byW x) 0 = x := by
    rw [blk, show pt (byW x) 0 = byW x by rw [pt]; simp [List.take_of_length_le, byW_len], bits_byW x hx]
  rw [b]
  simp [outN]
theorem ahd_congr (k k' : List UInt8) (h : ∀ x, x.length = 64 → enc k x = enc k' x) (p : List UInt8) (N : Nat) (hp : p.length = 8 * N) : ∀ i, i ≤ N → ahd k z64 p i = ahd k' z64 p i
  | 0, _ => rfl
  | i + 1, hi => by
      have ih := ahd_congr k k' h p N hp i (by omega)
      show enc k (xr _ _) = enc k' (xr _ _)
      rw [ih]
      exact h _ (by first | exact xr_len _ _ 64 (blk_len8 p N i hp (by omega)) (ahd_len _ _ z64_len _ _) | exact xr_len _ _ 64 (ahd_len _ _ z64_len _ _) (blk_len8 p N i hp (by omega)))
end Go.Proofs.Ytpifebapodfeaab.Sp
