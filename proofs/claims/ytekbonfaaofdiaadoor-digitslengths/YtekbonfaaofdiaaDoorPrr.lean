/- Prefix, the document's. -/
import Derived.Test.YtekbonfaaofdiaaDoorPre
import Derived.Test.YtekbonfaaofdiaaDoorNmr
import Derived.Test.YtekbonfaaofdiaaDoorPkr
namespace Go.Proofs.YtekbonfaaofdiaaDoor.Prr
open Go.RowKit Lib0 Chars Ebc Pck Num Nmr Pre
theorem len_yes (enc m : Int) (w : World) (h : mayP enc m) : Calls Tryd.prog 41 #[.int .i64 enc, .int .i64 m] w fun e w' => e = .returned (.bool true) ∧ w' = w := by
  obtain ⟨h1, h2, h3⟩ := h
  rcases h1 with rfl | rfl | rfl | rfl
  all_goals
    go_enter Tryd.func41, Tryd.ntmps41
    go_wp2
    go_ret
    exact ⟨by first | rfl | simp, rfl⟩
theorem len_no (enc m : Int) (w : World) (h : ¬ mayP enc m) : Calls Tryd.prog 41 #[.int .i64 enc, .int .i64 m] w fun e w' => e = .returned (.bool false) ∧ w' = w := by
  by_cases he : enc = 1 ∨ enc = 2 ∨ enc = 4 ∨ enc = 5
  · have hm : m < 1 ∨ 4 < m := by unfold mayP at h; omega
    clear h
    by_cases hm1 : 1 ≤ m
    · have hm2 : ¬ m ≤ 4 := by omega
      clear hm
      rcases he with rfl | rfl | rfl | rfl
      all_goals
        go_enter Tryd.func41, Tryd.ntmps41
        go_wp2
        go_ret
        exact ⟨by first | rfl | simp, rfl⟩
    · clear hm
      rcases he with rfl | rfl | rfl | rfl
      all_goals
        go_enter Tryd.func41, Tryd.ntmps41
        go_wp2
        go_ret
        exact ⟨by first | rfl | simp, rfl⟩
  · have h1 : (enc == 1) = false := by simp; omega
    have h2 : (enc == 2) = false := by simp; omega
    have h4 : (enc == 4) = false := by simp; omega
    have h5 : (enc == 5) = false := by simp; omega
    clear h he
    go_enter Tryd.func41, Tryd.ntmps41
    go_wp2
    go_ret
    exact ⟨rfl, rfl⟩
theorem prefr_bad (enc m n : Int) (w : World) (h : ¬ mayP enc m) : Calls Tryd.prog 17 #[.int .i64 enc, .int .i64 m, .int .i64 n] w (PPost enc m n w) := by
  show Calls _ _ _ _ fun e w' => e = _ ∧ _
  have HE : Hid (prefixR enc m n = ([], 1)) := by show _ = _; unfold prefixR; rw [if_neg (fun x => h x.1)]
  have H : Hid (¬ mayP enc m) := h
  clear h
  go_enter Tryd.func17, Tryd.ntmps17
  go_wp2_with fail
  refine (len_no enc m _ H.out).mono ?_
  rintro e w' ⟨rfl, rfl⟩
  go_wp2
  go_ret2
  exact ⟨by rw [HE.out]; rfl, Below.refl _ _⟩
theorem prefr_neg (enc m n : Int) (w : World) (h : mayP enc m) (hn : n < 0) : Calls Tryd.prog 17 #[.int .i64 enc, .int .i64 m, .int .i64 n] w (PPost enc m n w) := by
  show Calls _ _ _ _ fun e w' => e = _ ∧ _
  have HE : Hid (prefixR enc m n = ([], 1)) := by show _ = _; unfold prefixR; rw [if_neg (fun x => by omega)]
  have H : Hid (mayP enc m) := h
  clear h
  go_enter Tryd.func17, Tryd.ntmps17
  go_wp2_with fail
  refine (len_yes enc m _ H.out).mono ?_
  rintro e w' ⟨rfl, rfl⟩
  go_wp2
  go_ret2
  exact ⟨by rw [HE.out]; rfl, Below.refl _ _⟩
theorem prefr_over (enc : Int) (m u : Nat) (w : World) (h : mayP enc m) (hu : (u : Int) ≤ 9223372036854775807) (ho : ¬ u < 10 ^ m) : Calls Tryd.prog 17 #[.int .i64 enc, .int .i64 m, .int .i64 u] w (PPost enc m u w) := by
  show Calls _ _ _ _ fun e w' => e = _ ∧ _
  have hm := h.2
  have HE : Hid (prefixR enc m u = ([], 13)) := by show _ = _; unfold prefixR; rw [if_pos ⟨h, by omega⟩, if_neg (by simpa using ho)]
  have HW : Hid (writeR (u : Int) (m : Int) = ([], 13)) := w_over u m (by omega) (by omega) ho
  have H : Hid (mayP enc m) := h
  clear h ho hm
  go_enter Tryd.func17, Tryd.ntmps17
  go_wp2_with fail
  refine (len_yes enc m _ H.out).mono ?_
  rintro e w' ⟨rfl, rfl⟩
  go_wp2_with fail
  refine (write_ref (u : Int) (m : Int) _ hu).mono ?_
  rintro e w1 ⟨rfl, rfl⟩
  rw [HW.out]
  go_wp2
  go_ret2
  exact ⟨by rw [HE.out]; rfl, Below.refl _ _⟩
set_option maxRecDepth 100000 in
theorem prefr_bin (m u : Nat) (w : World) (m1 : 1 ≤ m) (m2 : m ≤ 4) (hu : (u : Int) ≤ 9223372036854775807) (ho : u < 10 ^ m) : Calls Tryd.prog 17 #[.int .i64 5, .int .i64 m, .int .i64 u] w (PPost 5 m u w) := by
  show Calls _ _ _ _ fun e w' => e = _ ∧ _
  have h : mayP 5 m := ⟨by omega, by omega, by omega⟩
  have HE : Hid (prefixR 5 m u = (binL m u, 0)) := by show _ = _; unfold prefixR; rw [if_pos ⟨h, by omega⟩, if_pos (by simpa using ho), if_pos rfl]; simp
  have HW : Hid (writeR (u : Int) (m : Int) = (dgs m u, 0)) := w_yes u m (by omega) (by omega) ho
  have H : Hid (mayP 5 m) := h
  by_cases hm : m ≤ 2
  · have u1 : u < 256 := by
      have : 10 ^ m ≤ 10 ^ 2 := Nat.pow_le_pow_right (by omega) hm
      omega
    have HB : Hid (binL m u = [u.toUInt8]) := by show _ = _; unfold binL; rw [if_pos hm]
    have hm2 : (m : Int) ≤ 2 := by omega
    clear h ho
    go_enter Tryd.func17, Tryd.ntmps17
    go_wp2_with fail
    refine (len_yes 5 m _ H.out).mono ?_
    rintro e w' ⟨rfl, rfl⟩
    go_wp2_with fail
    refine (write_ref (u : Int) (m : Int) _ hu).mono ?_
    rintro e w1 ⟨rfl, rfl⟩
    rw [HW.out]
    have hcv := Lib1.run_one_int w1 (u : Int) u.toUInt8 (Lib1.u8_of u u1)
    go_wp2
    go_ret2
    exact ⟨by rw [HE.out]; exact ret_ss (by rw [HB.out]) rfl, (Below.refl _ _).alloc (Nat.le_refl _) _⟩
  · have u1 : u < 65536 := by
      have : 10 ^ m ≤ 10 ^ 4 := Nat.pow_le_pow_right (by omega) m2
      omega
    have HB : Hid (binL m u = [(u / 256).toUInt8, (u % 256).toUInt8]) := by show _ = _; unfold binL; rw [if_neg hm]
    have hm2 : ¬ (m : Int) ≤ 2 := by omega
    clear h ho
    go_enter Tryd.func17, Tryd.ntmps17
    go_wp2_with fail
    refine (len_yes 5 m _ H.out).mono ?_
    rintro e w' ⟨rfl, rfl⟩
    go_wp2_with fail
    refine (write_ref (u : Int) (m : Int) _ hu).mono ?_
    rintro e w1 ⟨rfl, rfl⟩
    rw [HW.out]
    have hcv := Lib1.run_two_int w1 ((u : Int) / 256) ((u : Int) % 256) (u / 256).toUInt8 (u % 256).toUInt8 (by have := Lib1.u8_of (u / 256) (by omega); omega) (by have := Lib1.u8_of (u % 256) (by omega); omega)
    go_wp2
    go_ret2
    exact ⟨by rw [HE.out]; exact ret_ss (by rw [HB.out]) rfl, (Below.refl _ _).alloc (Nat.le_refl _) _⟩
set_option maxRecDepth 100000 in
theorem prefr_txt (enc : Int) (m u : Nat) (w : World) (henc : enc = 1 ∨ enc = 2 ∨ enc = 4) (m1 : 1 ≤ m) (m2 : m ≤ 4) (hu : (u : Int) ≤ 9223372036854775807) (ho : u < 10 ^ m) : Calls Tryd.prog 17 #[.int .i64 enc, .int .i64 m, .int .i64 u] w (PPost enc m u w) := by
  show Calls _ _ _ _ fun e w' => e = _ ∧ _
  have h : mayP enc m := ⟨by omega, by omega, by omega⟩
  have HE : Hid (prefixR enc m u = packR enc (dgs m u)) := by show _ = _; unfold prefixR; rw [if_pos ⟨h, by omega⟩, if_pos (by simpa using ho), if_neg (by omega)]; simp
  have HW : Hid (writeR (u : Int) (m : Int) = (dgs m u, 0)) := w_yes u m (by omega) (by omega) ho
  have H : Hid (mayP enc m) := h
  have he5 : (enc != 5) = true := by simp; omega
  obtain ⟨d, Hd, hds⟩ : ∃ d, Hid (ByteArray.mk (dgs m u).toArray = d) ∧ d.size ≤ 4 := ⟨_, rfl, by rw [dgs_size]; exact m2⟩
  have HDL : Hid (d.data.toList = dgs m u) := by show _ = _; rw [← Hd.out]
  clear h ho henc
  go_enter Tryd.func17, Tryd.ntmps17
  go_wp2_with fail
  refine (len_yes enc m _ H.out).mono ?_
  rintro e w' ⟨rfl, rfl⟩
  go_wp2_with fail
  refine (write_ref (u : Int) (m : Int) _ hu).mono ?_
  rintro e w1 ⟨rfl, rfl⟩
  rw [HW.out, Hd.out]
  go_wp2_with fail
  refine (Pkr.packr_any enc d _ (by omega)).mono ?_
  rintro e w3 ⟨rfl, hb3⟩
  rw [HDL.out]
  go_wp2
  go_ret2
  exact ⟨by rw [HE.out]; rfl, hb3⟩
theorem prefr_any (enc m n : Int) (w : World) (hn : n ≤ 9223372036854775807) : Calls Tryd.prog 17 #[.int .i64 enc, .int .i64 m, .int .i64 n] w (PPost enc m n w) := by
  by_cases h : mayP enc m
  · by_cases h0 : n < 0
    · exact prefr_neg enc m n w h h0
    · have h1 := h.1
      have h2 := h.2
      obtain ⟨u, rfl⟩ : ∃ u : Nat, n = (u : Int) := ⟨n.toNat, by omega⟩
      obtain ⟨k, rfl⟩ : ∃ k : Nat, m = (k : Int) := ⟨m.toNat, by omega⟩
      by_cases ho : u < 10 ^ k
      · by_cases h5 : enc = 5
        · subst h5
          exact prefr_bin k u w (by omega) (by omega) hn ho
        · exact prefr_txt enc k u w (by omega) (by omega) (by omega) hn ho
      · exact prefr_over enc k u w h hn ho
  · exact prefr_bad enc m n w h
end Go.Proofs.YtekbonfaaofdiaaDoor.Prr
