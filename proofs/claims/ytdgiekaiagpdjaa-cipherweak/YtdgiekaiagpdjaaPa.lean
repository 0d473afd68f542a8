/- What CipherParts asks, out of the contracts. -/
import Derived.Test.YtdgiekaiagpdjaaUl
import Derived.Test.YtdgiekaiagpdjaaLo
import Derived.Test.YtdgiekaiagpdjaaWk
namespace Go.Proofs.Ytdgiekaiagpdjaa.Pa
set_option linter.unusedVariables false
open Go.RowKit Pla Cb Wd Nw Bk Eb Et Pm Pc Bl Un Ul Lo Od Wk
theorem map_congr (f g : List Bool → List Bool) (t : List UInt8) (N : Nat) (ht : t.length = 8 * N) (h : ∀ x, x.length = 64 → f x = g x) : mapB f t = mapB g t := by
  have e : t.length / 8 = N := by omega
  rw [mapB, mapB, e]
  exact outN_congr _ _ N fun i hi => by rw [h _ (blk_len8 t N i ht hi)]
theorem half_all : ∀ c : Fin 256, oddC (UInt8.ofNat c.val) = oddC (UInt8.ofNat (c.val / 2 * 2)) ∧ (oddC (UInt8.ofNat c.val)).toNat / 2 = c.val / 2 := by decide +kernel
theorem odd_of (x : UInt8) : oddC x = oddC (UInt8.ofNat (x.toNat / 2 * 2)) := by
  have h := (half_all ⟨x.toNat, x.toNat_lt⟩).1
  rw [show UInt8.ofNat (⟨x.toNat, x.toNat_lt⟩ : Fin 256).val = x from UInt8.ofNat_toNat] at h
  exact h
theorem odd_half (x : UInt8) : (oddC x).toNat / 2 = x.toNat / 2 := by
  have h := (half_all ⟨x.toNat, x.toNat_lt⟩).2
  rw [show UInt8.ofNat (⟨x.toNat, x.toNat_lt⟩ : Fin 256).val = x from UInt8.ofNat_toNat] at h
  exact h
theorem oddL_alike : ∀ a b : List UInt8, a.length = b.length → Alk a b → oddL a = oddL b
  | [], [], _, _ => rfl
  | x :: a, y :: b, hl, h => by
      have h0 : x.toNat / 2 = y.toNat / 2 := h 0
      have hr : Alk a b := fun t => h (t + 1)
      have := oddL_alike a b (by simpa using hl) hr
      unfold oddL at this ⊢
      rw [List.map_cons, List.map_cons, this, odd_of x, odd_of y, h0]
theorem alike_odd (a : List UInt8) : Alk (oddL a) a := by
  intro t
  by_cases h : t < a.length
  · have e1 : (oddL a).getD t 0 = oddC a[t] := by
      have hh : t < (oddL a).length := by rw [oddL_len]; exact h
      rw [List.getD_eq_getElem?_getD, List.getElem?_eq_getElem hh]
      show (oddL a)[t] = _
      simp only [oddL, List.getElem_map]
    have e2 : a.getD t 0 = a[t] := by rw [List.getD_eq_getElem?_getD, List.getElem?_eq_getElem h]; rfl
    rw [e1, e2, odd_half]
  · rw [List.getD_eq_getElem?_getD, List.getD_eq_getElem?_getD, List.getElem?_eq_none (by rw [oddL_len]; omega), List.getElem?_eq_none (by omega)]
theorem wkU_alike (a b : ByteArray) (hl : a.size = b.size) (h : Alk a.data.toList b.data.toList) (K : Nat) : wkU a K = wkU b K := by
  unfold wkU
  congr 1
  funext i
  have hp : (pt a.data.toList i).length = (pt b.data.toList i).length := by
    have e1 : a.data.toList.length = a.size := by simp
    have e2 : b.data.toList.length = b.size := by simp
    rw [pt, pt, List.length_take, List.length_take, List.length_drop, List.length_drop, e1, e2, hl]
  rw [oddP, oddP, oddL_alike _ _ hp (alike_pt _ _ h i)]
theorem sz_app (a b : ByteArray) : (a ++ b).size = a.size + b.size := ByteArray.size_append
theorem dl_app (a b : ByteArray) : (a ++ b).data.toList = a.data.toList ++ b.data.toList := by simp
theorem kind16 (k : ByteArray) (h : k.size = 16) : Hid (kindN k.size = 2) := (by rw [h]; rfl : kindN k.size = 2)
theorem kind8 (k : ByteArray) (h : k.size = 8) : Hid (kindN k.size = 1) := (by rw [h]; rfl : kindN k.size = 1)
theorem kind24 (k : ByteArray) (h : k.size = 24) : Hid (kindN k.size = 3) := (by rw [h]; rfl : kindN k.size = 3)
theorem parts_all (a c t : ByteArray) (N : Nat) (ha : a.size = 8) (hc : c.size = 8) (hN : t.size = 8 * N) (hN2 : N ≤ 100) :
    ∃ X Y Z : ByteArray, X.size = t.size ∧ Y.size = t.size ∧
      (∀ u, Calls Try.prog 7 #[.string a, .string t] u (RetS X u)) ∧
      (∀ u, Calls Try.prog 7 #[.string c, .string t] u (RetS Y u)) ∧
      (∀ u, Calls Try.prog 7 #[.string (a ++ a), .string t] u (RetS X u)) ∧
      (∀ u, Calls Try.prog 7 #[.string (a ++ a ++ c), .string t] u (RetS Y u)) ∧
      (∀ u, Calls Try.prog 7 #[.string (a ++ c ++ c), .string t] u (RetS X u)) ∧
      (∀ u, Calls Try.prog 7 #[.string (a ++ c ++ a), .string t] u (RetS Z u)) ∧
      (∀ k : ByteArray, k.size = 16 → Alk k.data.toList (a ++ c).data.toList → ∀ u, Calls Try.prog 7 #[.string k, .string t] u (RetS Z u)) := by
  have hl : t.data.toList.length = 8 * N := by rw [len_size, hN]
  have la : a.data.toList.length = 8 := by rw [len_size, ha]
  have lc : c.data.toList.length = 8 := by rw [len_size, hc]
  have sz : ∀ (L : List UInt8) (m : Nat), L.length = m → (ByteArray.mk L.toArray).size = m := fun L m h => by show L.toArray.size = _; simpa using h
  have e1 : mapB (enc (a ++ a).data.toList) t.data.toList = mapB (enc a.data.toList) t.data.toList := map_congr _ _ _ N hl fun x hx => by rw [dl_app, enc_aa _ la _ hx]
  have e2 : mapB (enc (a ++ a ++ c).data.toList) t.data.toList = mapB (enc c.data.toList) t.data.toList := map_congr _ _ _ N hl fun x hx => by rw [dl_app, dl_app, List.append_assoc, enc_aac _ _ la lc _ hx]
  have e3 : mapB (enc (a ++ c ++ c).data.toList) t.data.toList = mapB (enc a.data.toList) t.data.toList := map_congr _ _ _ N hl fun x hx => by rw [dl_app, dl_app, List.append_assoc, enc_acc _ _ la lc _ hx]
  have e4 : mapB (enc (a ++ c ++ a).data.toList) t.data.toList = mapB (enc (a ++ c).data.toList) t.data.toList := map_congr _ _ _ N hl fun x hx => by rw [dl_app, dl_app, List.append_assoc, enc_aca _ _ la lc]
  refine ⟨⟨(mapB (enc a.data.toList) t.data.toList).toArray⟩, ⟨(mapB (enc c.data.toList) t.data.toList).toArray⟩, ⟨(mapB (enc (a ++ c).data.toList) t.data.toList).toArray⟩, by rw [hN]; exact sz _ _ (mapB_len _ _ N hl), by rw [hN]; exact sz _ _ (mapB_len _ _ N hl), ?_, ?_, ?_, ?_, ?_, ?_, ?_⟩
  · intro u; exact under_any a t 1 N (kind8 a ha) (by decide) (by decide) hN (by omega) u
  · intro u; exact under_any c t 1 N (kind8 c hc) (by decide) (by decide) hN (by omega) u
  · intro u
    have h := under_any (a ++ a) t 2 N (kind16 _ (by rw [sz_app]; omega)) (by decide) (by decide) hN (by omega) u
    rw [e1] at h; exact h
  · intro u
    have h := under_any (a ++ a ++ c) t 3 N (kind24 _ (by rw [sz_app, sz_app]; omega)) (by decide) (by decide) hN (by omega) u
    rw [e2] at h; exact h
  · intro u
    have h := under_any (a ++ c ++ c) t 3 N (kind24 _ (by rw [sz_app, sz_app]; omega)) (by decide) (by decide) hN (by omega) u
    rw [e3] at h; exact h
  · intro u
    have h := under_any (a ++ c ++ a) t 3 N (kind24 _ (by rw [sz_app, sz_app]; omega)) (by decide) (by decide) hN (by omega) u
    rw [e4] at h; exact h
  · intro k hk hal u
    have h := under_any k t 2 N (kind16 _ hk) (by decide) (by decide) hN (by omega) u
    have e5 : mapB (enc k.data.toList) t.data.toList = mapB (enc (a ++ c).data.toList) t.data.toList := map_congr _ _ _ N hl fun x hx => enc_low _ _ hal (by rw [len_size, len_size, hk, sz_app]; omega) x
    rw [e5] at h; exact h
/-- what Check and Weak have for keys alike -/
theorem keys_all (b : ByteArray) (hb : b.size = 16) : ∃ (Q : ByteArray) (W : Bool), ∀ k : ByteArray, k.size = 16 → Alk k.data.toList b.data.toList →
      (∀ u, Calls Try.prog 12 #[.string k] u fun e w' => e = .returned (.tuple #[.string Q, .int .i64 0]) ∧ Below u.heap.size u w') ∧
      (∀ u, Calls Try.prog 9 #[.string k] u fun e w' => e = .returned (.bool W) ∧ Below u.heap.size u w') := by
  refine ⟨⟨((byW (enc b.data.toList Ck.z64)).take 3).toArray⟩, wkU b 2, fun k hk hal => ⟨fun u => ?_, fun u => ?_⟩⟩
  · have h := Ck.check_good k 2 (kind16 k hk) (by decide) (by decide) u
    rw [enc_low _ _ hal (by rw [len_size, len_size, hk, hb])] at h
    exact h
  · have h := weak_any k u
    rw [show kindN k.size = 2 from (kind16 k hk).out, wkU_alike k b (by omega) hal] at h
    exact h
end Go.Proofs.Ytdgiekaiagpdjaa.Pa
