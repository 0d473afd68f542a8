/- The chapter's first example: what each call tells of it. -/
import Derived.Test.YtgidjfhlooggkaaBu
import Derived.Test.YtgidjfhlooggkaaFd
import Derived.Test.YtgidjfhlooggkaaPn
namespace Go.Proofs.Ytgidjfhlooggkaa.Kx
set_option linter.unusedVariables false
set_option linter.unusedSimpArgs false
open Go.RowKit Kb Ga Gb Gc Nt Wk Ls Wr Nb Bu Sb Go_ Gl
def K1 : ByteArray := ⟨#[112, 5, 90, 3, 65, 17, 17]⟩
def K2 : ByteArray := ⟨#[48, 49, 48, 50, 65, 66, 48, 51, 48, 48]⟩
def K3 : ByteArray := ⟨#[65, 17, 17]⟩
def K4 : ByteArray := ⟨#[65, 66]⟩
theorem x1 : K1.extract 4 (4 + 3) = K3 := by
  apply ByteArray.ext
  simp [K1, K3]
theorem x2 : K2.extract 4 (4 + 2) = K4 := by
  apply ByteArray.ext
  simp [K2, K4]
theorem x3 : K2.extract 10 (10 + 0) = Np.mt := by
  apply ByteArray.ext
  simp [K2, Np.mt]
set_option maxRecDepth 100000 in
theorem p1 : parseR K1 = .ok [Tr.mk 112 Np.mt [Tr.mk 90 (K1.extract 4 (4 + 3)) []]] 7 2 := by kernel_rfl
theorem st (kv1 kv2 : Value) : steps 1 [AT.mk 112 Np.mt kv1 [AT.mk 90 K3 kv2 []]] = [(1, AT.mk 112 Np.mt kv1 [AT.mk 90 K3 kv2 []]), (2, AT.mk 90 K3 kv2 [])] := by simp [steps]
theorem l0 (kv2 : Value) : lsz [AT.mk 90 K3 kv2 []] = 5 := by simp only [lsz]; kernel_rfl
theorem l1 (kv1 kv2 : Value) : lsz [AT.mk 112 Np.mt kv1 [AT.mk 90 K3 kv2 []]] = 7 := by
  have e : lsz [AT.mk 112 Np.mt kv1 [AT.mk 90 K3 kv2 []]] = (tgS 112).toNat + (lnS ((Np.mt.size + lsz [AT.mk 90 K3 kv2 []] : Nat) : Int)).toNat + (Np.mt.size + lsz [AT.mk 90 K3 kv2 []]) + lsz [] := by conv => lhs; unfold lsz
  have h1 : (tgS 112).toNat = 1 := by kernel_rfl
  have h2 : (lnS ((Np.mt.size + 5 : Nat) : Int)).toNat = 1 := by kernel_rfl
  have h3 : Np.mt.size = 0 := rfl
  have h4 : lsz [] = 0 := by simp only [lsz]
  rw [e, l0, h1, h2, h3, h4]
theorem w1 (kv1 kv2 : Value) : wrR 0 [(1, AT.mk 112 Np.mt kv1 [AT.mk 90 K3 kv2 []]), (2, AT.mk 90 K3 kv2 [])] = 0 := by kernel_rfl
theorem a1 (kv1 kv2 : Value) : bldE [AT.mk 112 Np.mt kv1 [AT.mk 90 K3 kv2 []]] = 0 := by
  unfold bldE; rw [st, l1, w1]; kernel_rfl
theorem a2 (kv1 kv2 : Value) : (bldS [AT.mk 112 Np.mt kv1 [AT.mk 90 K3 kv2 []]]).size = 7 := by
  unfold bldS; rw [a1, if_pos rfl, st]
  simp only [encS, List.flatMap_cons, List.flatMap_nil, enc1, csz, AT.val, AT.kids, AT.tag, l0]
  rw [show lsz [] = 0 by simp only [lsz]]
  kernel_rfl
theorem a3 (kv1 kv2 : Value) : Fd.look [AT.mk 112 Np.mt kv1 [AT.mk 90 K3 kv2 []]] [112, 90] none = some (AT.mk 90 K3 kv2 []) := by
  simp [Fd.look, Fd.idx, AT.tag, AT.kids]
theorem a4 (kv1 kv2 : Value) : dep [AT.mk 112 Np.mt kv1 [AT.mk 90 K3 kv2 []]] = 2 := by simp [dep]
theorem a6 (kv1 kv2 : Value) : Pn.prS (steps 1 [AT.mk 112 Np.mt kv1 [AT.mk 90 K3 kv2 []]]) = [55, 48, 10, 32, 32, 53, 65, 32, 52, 49, 49, 49, 49, 49, 10] := by
  rw [st]
  simp only [Pn.prS, List.flatMap_cons, List.flatMap_nil, AT.tag, AT.val]
  kernel_rfl
theorem r0 : pairR K2 0 10 90 = .ok 1 2 := by kernel_rfl
theorem r1 : pairR K2 2 10 91 = .ok 2 4 := by kernel_rfl
theorem r2 : pairR K2 6 10 90 = .ok 3 8 := by kernel_rfl
theorem r3 : pairR K2 8 10 91 = .ok 0 10 := by kernel_rfl
theorem s1 : Go_.seen K4 = 2 := by kernel_rfl
theorem s2 : Go_.seen Np.mt = 0 := by kernel_rfl
theorem b1 : subR K2 0 10 0 = .ok (Tr.mk 1 K4 []) 6 1 := by
  unfold subR
  rw [if_pos (by omega), show ((10 : Nat) : Int) = 10 from rfl, r0]
  simp only
  rw [r1]
  simp only
  rw [if_pos (by omega), show (2 : Int).toNat = 2 from rfl, x2, s1, if_pos rfl]
theorem b2 : subR K2 6 10 1 = .ok (Tr.mk 3 Np.mt []) 10 2 := by
  unfold subR
  rw [if_pos (by omega), show ((10 : Nat) : Int) = 10 from rfl, r2]
  simp only
  rw [r3]
  simp only
  rw [if_pos (by omega), show (0 : Int).toNat = 0 from rfl, x3, s2, if_pos rfl]
theorem p2 : parseS K2 = .ok [Tr.mk 1 K4 [], Tr.mk 3 Np.mt []] 10 2 := by
  unfold parseS
  rw [show K2.size = 10 from rfl, if_pos (by omega), subsR_step (f := 9) (by omega), b1]
  simp only [Np.thenR]
  rw [subsR_step (f := 8) (by omega), b2]
  simp only [Np.thenR]
  rw [subsR_done (by omega)]
  simp only [Np.andR]
end Go.Proofs.Ytgidjfhlooggkaa.Kx
