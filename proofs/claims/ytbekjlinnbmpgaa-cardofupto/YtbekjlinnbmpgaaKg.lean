/- Cards: Digit: the program's and the document's. -/
import Derived.Test.YtbekjlinnbmpgaaKi
namespace Go.Proofs.Ytbekjlinnbmpgaa.Kg
open Go.RowKit Lib0 Kp Kb Kd Ki
theorem app_list (s t : ByteArray) : (s ++ t).data.toList = s.data.toList ++ t.data.toList := by simp
theorem conv_one {P : Program} {w : World} {src dst e : TypeId} {g : Nat} {c : Nat} {t : TypeId} {fr : Nat × Nat} (hc : c < 256) (hs : P.underlying src = some (.slice e)) (he : P.underlying e = some (.int .u8)) (hd : P.underlying dst = some .string)
    (hg : w.heap[g]? = some (.cells #[.int .u8 (c : Int)] t fr)) : (convert src dst (.slice (some ⟨g, 0, none⟩) 1 1)).run P w = .ok (.string ⟨#[UInt8.ofNat c]⟩) w := by
  have h := run_convert_bytes_back (P := P) w src dst e ⟨g, 0, none⟩ 1 [UInt8.ofNat c] hs he hd (fun j hj => by
    obtain rfl : j = 0 := by simpa using hj
    rw [show (⟨g, 0, none⟩ : Addr).add 0 = ⟨g, 0, none⟩ by unfold Addr.add; split <;> simp_all, cell_of_row w g 0 _ t fr hg]
    simp; omega)
  exact h
theorem conv_new (w : World) (m : Nat) (hm : m < 10) :
    (convert 57 9 (.slice (some ⟨w.heap.size, 0, none⟩) 1 1)).run Try.prog (w.alloc (Obj.cells #[.int .u8 (48 + (m : Int))] 5)) = .ok (.string ⟨#[UInt8.ofNat (48 + m)]⟩) (w.alloc (Obj.cells #[.int .u8 (48 + (m : Int))] 5)) :=
  conv_one (c := 48 + m) (by omega) Try.underlying57 Try.underlying5 Try.underlying9 (h1_0 w _)
set_option maxRecDepth 100000 in
theorem digit_bad (s : ByteArray) (w : World) (hs : s.size ≤ 4194304) (h : (decide (1 ≤ s.size) && decide (s.size ≤ 18) && ad s) = false) :
    Calls Try.prog 15 #[.string s] w fun e w' => e = .returned (.tuple #[.string ⟨#[]⟩, .int .i64 50]) ∧ w' = w := by
  have p1 := fun y => allDigits_any s y hs
  by_cases h1 : (s.size : Int) < 1
  · clear h
    go_enter Try.func15, Try.ntmps15
    go_wp2
    go_ret2
    exact ⟨rfl, rfl⟩
  · by_cases h2 : (18 : Int) < s.size
    · clear h
      go_enter Try.func15, Try.ntmps15
      go_wp2
      go_ret2
      exact ⟨rfl, rfl⟩
    · have hd : ad s = false := by
        rw [show decide (1 ≤ s.size) = true by simp; omega, show decide (s.size ≤ 18) = true by simp; omega] at h
        exact h
      rw [hd] at p1
      clear h
      go_enter Try.func15, Try.ntmps15
      go_wp2_with fail
      refine (p1 _).mono ?_
      rintro e w' ⟨rfl, rfl⟩
      go_wp2
      go_ret2
      exact ⟨rfl, rfl⟩
theorem ad_app (s t : ByteArray) (hs : ad s = true) (ht : ad t = true) : ad (s ++ t) = true := by
  unfold ad at *
  rw [app_list, List.all_append, hs, ht]; rfl
set_option maxRecDepth 100000 in
theorem digit_good (s : ByteArray) (w : World) (h1 : 1 ≤ s.size) (h2 : s.size ≤ 18) (hd : ad s = true) :
    Calls Try.prog 15 #[.string s] w fun e w' => e = .returned (.tuple #[.string ⟨#[UInt8.ofNat (48 + miss s.data.toList)]⟩, .int .i64 0]) ∧ Below w.heap.size w w' := by
  have p1 := fun y => allDigits_any s y (by omega)
  rw [hd] at p1
  have p2 := fun y => sum_any (s ++ ⟨#[48]⟩) y (by rw [ByteArray.size_append]; show s.size + 1 ≤ _; omega) (ad_app s ⟨#[48]⟩ hd (by decide))
  rw [show (s ++ ⟨#[48]⟩ : ByteArray).data.toList = s.data.toList ++ [48] from app_list _ _] at p2
  have Hm : Hid (miss s.data.toList = (10 - sm (s.data.toList ++ [48]) % 10) % 10) := rfl
  have hv0 : sm (s.data.toList ++ [48]) % 10 < 10 := Nat.mod_lt _ (by omega)
  generalize sm (s.data.toList ++ [48]) % 10 = v at *
  have a1 : ¬ (s.size : Int) < 1 := by omega
  have a2 : ¬ (18 : Int) < s.size := by omega
  obtain ⟨m, Hm2, hm⟩ : ∃ m : Nat, Hid (miss s.data.toList = m) ∧ m < 10 := ⟨_, rfl, miss_lt _⟩
  rw [Hm2.out]
  have em : ((10 : Int) - v) % 10 = m := by have := Hm.out; have := Hm2.out; omega
  have em0 : (0 : Int) ≤ (10 : Int) - v := by omega
  have ew : IntKind.u8.wrap (m : Int) = m := wrap_u8 _ (by omega) (by omega)
  clear Hm Hm2
  obtain ⟨D, HD⟩ : ∃ D : ByteArray, Hid ((⟨#[UInt8.ofNat (48 + m)]⟩ : ByteArray) = D) := ⟨_, rfl⟩
  rw [HD.out]
  clear hd h1 h2
  go_enter Try.func15, Try.ntmps15
  go_wp2_with fail
  refine (p1 _).mono ?_
  rintro e w' ⟨rfl, rfl⟩
  go_wp2_with fail
  refine (p2 _).mono ?_
  rintro e w' ⟨rfl, rfl⟩
  have cv := conv_new w' m hm
  rw [HD.out] at cv
  go_wp2
  go_ret2
  exact ⟨rfl, below_one w' _⟩
theorem ad_one (k : Nat) (h : k < 10) : ad ⟨#[UInt8.ofNat (48 + k)]⟩ = true := by
  have : ∀ m : Fin 10, ad ⟨#[UInt8.ofNat (48 + m.val)]⟩ = true := by decide
  exact this ⟨k, h⟩
theorem dig_one (k : Nat) (h : k < 10) : dig (UInt8.ofNat (48 + k)) = true ∧ (UInt8.ofNat (48 + k)).toNat = 48 + k := by
  have : ∀ m : Fin 10, dig (UInt8.ofNat (48 + m.val)) = true ∧ (UInt8.ofNat (48 + m.val)).toNat = 48 + m.val := by decide
  exact this ⟨k, h⟩
end Go.Proofs.Ytbekjlinnbmpgaa.Kg
