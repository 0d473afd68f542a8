/- What SealSteps asks, out of the contracts. -/
import Derived.Test.YtpifebapodfeaaaTg
import Derived.Test.YtpifebapodfeaaaFt
import Derived.Test.YtpifebapodfeaaaEa
import Derived.Test.YtpifebapodfeaaaFl
namespace Go.Proofs.Ytpifebapodfeaaa.St
set_option linter.unusedVariables false
open Go.RowKit Pla Cb Wd Nw Bk Eb Et Cc Ch Pm Fp Sp Pe Tg Se
open Ck (z64)
open Bl (Ret)
theorem nbM_le8 (m n : Nat) : 8 * nbM m n ≤ n + 8 := by
  unfold nbM
  split
  · unfold nb; omega
  · unfold nb; omega
theorem fill_pre (m : Nat) (s : ByteArray) : (fillB m s).extract 0 s.size = s := by
  apply ByteArray.ext
  apply Array.ext'
  rw [ByteArray.data_extract, Array.toList_extract, List.extract_eq_take_drop, fillB_list]
  rw [List.drop_zero, Nat.sub_zero, ← len_size s]
  unfold fillL
  split
  · simp [padL]
  · simp [padL]
theorem all (alg m : Nat) (ha : alg = 1 ∨ alg = 3) (hm : m = 1 ∨ m = 2) (s : ByteArray) (hs : s.size ≤ 1048576) (r : ByteArray) (hr : r.size = 4 + 4 * alg) :
    ∃ (T P : ByteArray) (N : Nat) (c x : Nat → ByteArray), 1 ≤ N ∧ P.size = 8 * N ∧ s.size ≤ P.size ∧ P.size ≤ s.size + 8 ∧ P.extract 0 s.size = s ∧ T.size = 8 ∧ c 0 = noughts ∧
      (∀ u, Calls Try.prog 11 #[.int .i64 (alg : Int), .int .i64 (m : Int), .string r, .string s] u (Ret T u)) ∧ (∀ u, Calls Try.prog 8 #[.int .i64 (m : Int), .string s] u (Ret P u)) ∧
      (∀ u, Calls Try.prog 15 #[.string (r.extract 0 8)] u fun e w' => ∃ g, e = .returned (.tuple #[.pointer (some ⟨g, 0, none⟩), .int .i64 0]) ∧ Key w' g 1 (r.data.toList.take 8) ∧ Below u.heap.size u w') ∧
      (∀ j, j < N → ∀ u, Calls Try.prog 16 #[.string (c j), .string (P.extract (8 * j) (8 * j + 8))] u (Ret (x j) u)) ∧
      (∀ j, j < N → ∀ g u, Key u g 1 (r.data.toList.take 8) → Calls Try.prog 17 #[.pointer (some ⟨g, 0, none⟩), .string (x j)] u (Ret (c (j + 1)) u)) ∧
      (alg = 1 → T = c N) ∧ (alg = 3 → (∀ u, Calls Try.prog 15 #[.string (r.extract 8 r.size)] u fun e w' => ∃ g, e = .returned (.tuple #[.pointer (some ⟨g, 0, none⟩), .int .i64 0]) ∧ Key w' g 1 (r.data.toList.drop 8) ∧ Below u.heap.size u w') ∧
        ∃ D : ByteArray, (∀ g u, Key u g 1 (r.data.toList.drop 8) → Calls Try.prog 18 #[.pointer (some ⟨g, 0, none⟩), .string (c N)] u (Ret D u)) ∧
          (∀ g u, Key u g 1 (r.data.toList.take 8) → Calls Try.prog 17 #[.pointer (some ⟨g, 0, none⟩), .string D] u (Ret T u))) := by
  have hrl : r.data.toList.length = 4 + 4 * alg := by rw [len_size, hr]
  have k8 : kindN (r.data.toList.take 8).length = 1 := take8_len _ (by omega)
  have hP : (fillB m s).size = 8 * nbM m s.size := fillB_size m s
  have hp := nbM_pos m s.size
  have hl := nbM_le8 m s.size
  have hg : s.size ≤ 8 * nbM m s.size := by
    unfold nbM
    split
    · have := nb_ge (s.size + 1); omega
    · exact nb_ge _
  have eC : bitsS (Ea.lastB (r.data.toList.take 8) noughts (fillB m s) (nbM m s.size)).data.toList = lastC (r.data.toList.take 8) (fillL m s.data.toList) := by
    rw [Ea.last_bits, noughts_bits, fillB_list, lastC, fillL_len, len_size, show 8 * nbM m s.size / 8 = nbM m s.size by omega]
  have eN : Ea.lastB (r.data.toList.take 8) noughts (fillB m s) (nbM m s.size) = ⟨(byW (lastC (r.data.toList.take 8) (fillL m s.data.toList))).toArray⟩ := by
    rw [← eC, byW_bits _ (by rw [len_size, Ea.last_size _ _ _ rfl]), mk_eq]
  have szL := Ea.szL
  have hlc := lastC_len (r.data.toList.take 8) (fillL m s.data.toList)
  refine ⟨tagB alg m r s, fillB m s, nbM m s.size, fun j => Ea.lastB (r.data.toList.take 8) noughts (fillB m s) j, fun j => Ea.mixB (r.data.toList.take 8) noughts (fillB m s) j, hp, hP, by omega, by omega, fill_pre m s, tagB_size _ _ _ _, rfl,
    fun u => Tag_good alg m ha hm r hr s (by omega) u, fun u => pad_good m hm s (by omega) u, fun u => ?_, fun j hj u => Ea.xor_piece _ (fillB m s) noughts _ rfl hP j hj u, fun j hj g u hk => Ea.enc_mix _ 1 (fillB m s) noughts _ ⟨k8, by decide⟩ rfl hP j hj g u hk, fun e => ?_, fun e => ⟨fun u => ?_, ⟨(byW (dec (r.data.toList.drop 8) (lastC (r.data.toList.take 8) (fillL m s.data.toList)))).toArray⟩, fun g u hk => ?_, fun g u hk => ?_⟩⟩
  · refine (new_good (r.extract 0 8) 1 (key8 r (by omega)) (by decide) (by decide) u).mono ?_
    rintro e w' ⟨g, he, hg, hk, hb⟩
    rw [ext_take] at hk
    exact ⟨g, he, hk, hb⟩
  · subst e
    show tagB 1 m r s = Ea.lastB (r.data.toList.take 8) noughts (fillB m s) (nbM m s.size)
    rw [eN, tagB, tagC, if_neg (by decide)]
  · subst e
    refine (new_good (r.extract 8 r.size) 1 (key16 r (by omega)) (by decide) (by decide) u).mono ?_
    rintro e w' ⟨g, he, hg, hk, hb⟩
    rw [ext_drop] at hk
    exact ⟨g, he, hk, hb⟩
  · subst e
    have k16 : kindN (r.data.toList.drop 8).length = 1 := by rw [List.length_drop, hrl]; rfl
    show Calls _ _ #[_, .string (Ea.lastB (r.data.toList.take 8) noughts (fillB m s) (nbM m s.size))] _ _
    rw [eN]
    have h := Dec_good ⟨(byW (lastC (r.data.toList.take 8) (fillL m s.data.toList))).toArray⟩ g 1 1 _ u (by show (ByteArray.mk _).size = 8 * 1; rw [szL, byW_len]) (by rw [szL, byW_len]; omega) (⟨k16, by decide⟩ : kindN (r.data.toList.drop 8).length = 1 ∧ 1 ≤ 1) hk
    rw [Ea.dl, map_one _ _ hlc] at h
    exact h
  · subst e
    have h := Enc_good ⟨(byW (dec (r.data.toList.drop 8) (lastC (r.data.toList.take 8) (fillL m s.data.toList)))).toArray⟩ g 1 1 _ u (by show (ByteArray.mk _).size = 8 * 1; rw [szL, byW_len]) (by rw [szL, byW_len]; omega) (⟨k8, by decide⟩ : kindN (r.data.toList.take 8).length = 1 ∧ 1 ≤ 1) hk
    rw [Ea.dl, map_one _ _ (dec_len _ _)] at h
    rw [tagB, tagC, if_pos rfl]
    exact h
end Go.Proofs.Ytpifebapodfeaaa.St
