/- What SealChanges asks, out of the contracts. -/
import Derived.Test.YtpifebapodfeaabSy
import Derived.Test.YtpifebapodfeaabFt
import Derived.Test.YtpifebapodfeaabOw
namespace Go.Proofs.Ytpifebapodfeaab.Cg
set_option linter.unusedVariables false
open Go.RowKit Pla Cb Sm Wd Nw Bk Eb Et Cc Ch Pm Fp Sp Pe Se Tg Sd Sq Sr Wk Sx Sy
open Ck (z64)
def FF (alg : Nat) (fst x now : ByteArray) (rd : Nat) : Nat → Option Held := upd (upd emp 0 (Option.some ⟨alg, 1, now, x, rd⟩)) 1 (Option.some ⟨alg, 1, fst, x, 0⟩)
theorem FF_0 (alg : Nat) (fst x now : ByteArray) (rd : Nat) : FF alg fst x now rd 0 = Option.some ⟨alg, 1, now, x, rd⟩ := by simp [FF, upd]
theorem FF_1 (alg : Nat) (fst x now : ByteArray) (rd : Nat) : FF alg fst x now rd 1 = Option.some ⟨alg, 1, fst, x, 0⟩ := by simp [FF, upd]
theorem FF_upd (alg : Nat) (fst x now k : ByteArray) (rd rd' : Nat) : upd (FF alg fst x now rd) 0 (Option.some ⟨alg, 1, k, x, rd'⟩) = FF alg fst x k rd' := by
  funext i
  simp only [FF, upd]
  by_cases h0 : i = 0
  · subst h0; simp
  · rw [if_neg h0]
    by_cases h1 : i = 1
    · rw [if_pos h1, if_pos h1]
    · rw [if_neg h1, if_neg h1, if_neg h0, if_neg h0]
def wrp (x k : ByteArray) : ByteArray := ⟨(mapB (enc x.data.toList) k.data.toList).toArray⟩
theorem wrp_size (x k : ByteArray) (N : Nat) (h : k.size = 8 * N) : (wrp x k).size = 8 * N := by
  show (mapB _ _).toArray.size = _
  rw [List.size_toArray, mapB_len _ _ N (by rw [len_size, h])]
theorem new_wrp (x k : ByteArray) (N : Nat) (h : k.size = 8 * N) : newKey x (wrp x k) = k := by
  rw [newKey, wrp, show (ByteArray.mk (mapB (enc x.data.toList) k.data.toList).toArray).data.toList = mapB (enc x.data.toList) k.data.toList by simp, map_back (enc x.data.toList) (dec x.data.toList) (enc_len _) (dec_enc _) _ N (by rw [len_size, h]), mk_eq]
theorem chk_size (k : ByteArray) : (chk k).size = 3 := by
  show ((byW _).take 3).toArray.size = 3
  rw [List.size_toArray, List.length_take, byW_len]; rfl
theorem fit_own (k : ByteArray) : fitE k (chk k) = if wkU k (kindN k.size) = true then 42 else 0 := by
  rw [fitE, show ((chk k).toList == (chk k).toList) = true by rw [beq_self_eq_true]]; rfl
theorem fit_else (k v : ByteArray) (h : v.size ≠ 3) : fitE k v = if wkU k (kindN k.size) = true then 42 else 41 := by
  rw [fitE, Ow.size_ne (chk k) v (by rw [chk_size]; exact fun e => h e.symm)]; rfl
def RetC (E : Int) (b d : Nat) (f : Nat → Option Held) (w : World) : Ending → World → Prop := fun e w' => e = .returned (.int .i64 E) ∧ Slots w' b d 2 f ∧ Fr b d w w'
theorem change_ok (alg : Nat) (fst x now k : ByteArray) (rd N : Nat) (hk : k.size = 8 * N) (hn : now.size = k.size) (hx : x.size = 16) (hrd : rd ≤ 2000000) (hB : wkU k (kindN k.size) = false) (b d : Nat) (y : World) (hS : Slots y b d 2 (FF alg fst x now rd)) :
    Calls Try.prog 16 #[.pointer (some ⟨b, 0, Option.none⟩), .int .i64 0, .string (wrp x k), .string (chk k)] y (RetC 0 b d (FF alg fst x k (rd + 1)) y) := by
  have h := Change_good b d 2 0 (FF alg fst x now rd) ⟨alg, 1, now, x, rd⟩ (by decide) (FF_0 _ _ _ _ _) hx (wrp x k) (chk k) (by rw [wrp_size x k N hk, ← hk, hn]) (by show fitE (newKey x (wrp x k)) _ = 0; rw [new_wrp x k N hk, fit_own, if_neg (by rw [hB]; decide)]) y hS
  have e : upd (FF alg fst x now rd) 0 (Option.some ⟨alg, 1, newKey x (wrp x k), x, min (rd + 1) 999999999⟩) = FF alg fst x k (rd + 1) := by
    rw [new_wrp x k N hk, Nat.min_eq_left (by omega), FF_upd]
  rw [e] at h
  exact h
theorem change_no (alg : Nat) (fst x now k v : ByteArray) (rd N : Nat) (hk : k.size = 8 * N) (hn : now.size = k.size) (hx : x.size = 16) (E : Int) (hE : fitE k v = E) (hE0 : (E != 0) = true) (b d : Nat) (y : World) (hS : Slots y b d 2 (FF alg fst x now rd)) :
    Calls Try.prog 16 #[.pointer (some ⟨b, 0, Option.none⟩), .int .i64 0, .string (wrp x k), .string v] y (RetC E b d (FF alg fst x now rd) y) :=
  Change_bad b d 2 0 (FF alg fst x now rd) ⟨alg, 1, now, x, rd⟩ (by decide) (FF_0 _ _ _ _ _) hx (wrp x k) v (by rw [wrp_size x k N hk, ← hk, hn]) E (by show fitE (newKey x (wrp x k)) _ = E; rw [new_wrp x k N hk, hE]) hE0 y hS
theorem change_len (alg : Nat) (fst x now : ByteArray) (rd : Nat) (u v : ByteArray) (hu : u.size ≠ now.size) (hx : x.size = 16) (b d : Nat) (y : World) (hS : Slots y b d 2 (FF alg fst x now rd)) :
    Calls Try.prog 16 #[.pointer (some ⟨b, 0, Option.none⟩), .int .i64 0, .string u, .string v] y (RetC 30 b d (FF alg fst x now rd) y) :=
  Change_key b d 2 0 (FF alg fst x now rd) ⟨alg, 1, now, x, rd⟩ (by decide) (FF_0 _ _ _ _ _) hx u v hu y hS
/-- the block of the exchange key, across the slots' doings -/
theorem key_fr {a w : World} {b d g K : Nat} {l : List UInt8} {f : Nat → Option Held} (h : Fr b d a w) (hS : Slots a b d 2 f) (hk : Key a g K l) : Key w g K l := by
  obtain ⟨hm, _, _, A, hr⟩ := hS
  exact h.key hm hr.2.1 hk
theorem fb {w a c : World} {b d : Nat} (h : Below w.heap.size w a) (lb : w.heap.size ≤ b) (ld : w.heap.size ≤ d) (f : Fr b d a c) : Below w.heap.size w c := h.trans (f.below lb ld h.size)
def RetT (s : ByteArray) (w : World) : Ending → World → Prop := fun e w' => e = .returned (.tuple #[.string s, .int .i64 0]) ∧ Below w.heap.size w w'
theorem paths (alg : Nat) (fst x now k : ByteArray) (rd N : Nat) (hk : k.size = 8 * N) (hN : N = 1 ∨ N = 2) (hn : now.size = k.size) (hx : x.size = 16) (hrd : rd ≤ 2000000) : ∃ (W V : ByteArray) (B : Bool), W.size = k.size ∧ V.size = 3 ∧
    (∀ g u, Key u g 2 x.data.toList → Calls Try.prog 13 #[.pointer (some ⟨g, 0, Option.none⟩), .string k] u (RetT W u)) ∧
    (∀ u, Calls Try.prog 14 #[.string k] u (RetT V u)) ∧
    (∀ u, Calls Try.prog 15 #[.string k] u fun e w' => e = .returned (.bool B) ∧ Below u.heap.size u w') ∧
    (B = false → ∀ b d y, Slots y b d 2 (FF alg fst x now rd) → Calls Try.prog 16 #[.pointer (some ⟨b, 0, Option.none⟩), .int .i64 0, .string W, .string V] y (RetC 0 b d (FF alg fst x k (rd + 1)) y)) ∧
    (B = true → ∀ v, (v.size ≠ 3 ∨ v = V) → ∀ b d y, Slots y b d 2 (FF alg fst x now rd) → Calls Try.prog 16 #[.pointer (some ⟨b, 0, Option.none⟩), .int .i64 0, .string W, .string v] y (RetC 42 b d (FF alg fst x now rd) y)) ∧
    (B = false → ∀ v, v.size ≠ 3 → ∀ b d y, Slots y b d 2 (FF alg fst x now rd) → Calls Try.prog 16 #[.pointer (some ⟨b, 0, Option.none⟩), .int .i64 0, .string W, .string v] y (RetC 41 b d (FF alg fst x now rd) y)) ∧
    (∀ u v, u.size ≠ now.size → ∀ b d y, Slots y b d 2 (FF alg fst x now rd) → Calls Try.prog 16 #[.pointer (some ⟨b, 0, Option.none⟩), .int .i64 0, .string u, .string v] y (RetC 30 b d (FF alg fst x now rd) y)) := by
  have kK : kindN k.size = N := by rw [hk]; rcases hN with rfl | rfl <;> rfl
  refine ⟨wrp x k, chk k, wkU k (kindN k.size), by rw [wrp_size x k N hk, hk], chk_size k, fun g u hu => ?_, fun u => ?_, fun u => weak_any k u, fun hB b d y hS => change_ok alg fst x now k rd N hk hn hx hrd hB b d y hS, fun hB v hv b d y hS => ?_, fun hB v hv b d y hS => ?_, fun u v hu b d y hS => change_len alg fst x now rd u v hu hx b d y hS⟩
  · exact Enc_good k g 2 N x.data.toList u hk (by omega) (⟨by rw [len_size, hx]; rfl, by decide⟩ : kindN x.data.toList.length = 2 ∧ 1 ≤ 2) hu
  · exact Ck.check_good k N kK (by omega) (by omega) u
  · refine change_no alg fst x now k v rd N hk hn hx 42 ?_ rfl b d y hS
    rcases hv with hv | rfl
    · rw [fit_else k v hv, if_pos hB]
    · rw [fit_own, if_pos hB]
  · refine change_no alg fst x now k v rd N hk hn hx 41 ?_ rfl b d y hS
    rw [fit_else k v hv, if_neg (by rw [hB]; decide)]
end Go.Proofs.Ytpifebapodfeaab.Cg
