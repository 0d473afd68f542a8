/- Prefix, the program's. -/
import Derived.Test.YtmgnmkolijaidaaDoorLib1
import Derived.Test.YtmgnmkolijaidaaDoorUnp
namespace Go.Proofs.YtmgnmkolijaidaaDoor.Pre
open Go.RowKit Lib0 Chars Ebc Pck Num Unp
def mayP (enc m : Int) : Prop := (enc = 1 ∨ enc = 2 ∨ enc = 4 ∨ enc = 5) ∧ 1 ≤ m ∧ m ≤ 4
theorem may_yes (enc m : Int) (w : World) (h : mayP enc m) : Calls Tryd.prog 9 #[.int .i64 enc, .int .i64 m] w fun e w' => e = .returned (.bool true) ∧ w' = w := by
  obtain ⟨h1, h2, h3⟩ := h
  rcases h1 with rfl | rfl | rfl | rfl
  all_goals
    go_enter Tryd.func9, Tryd.ntmps9
    go_wp2
    go_ret
    exact ⟨rfl, rfl⟩
theorem may_no (enc m : Int) (w : World) (h : ¬ mayP enc m) : Calls Tryd.prog 9 #[.int .i64 enc, .int .i64 m] w fun e w' => e = .returned (.bool false) ∧ w' = w := by
  by_cases he : enc = 1 ∨ enc = 2 ∨ enc = 4 ∨ enc = 5
  · have hm : m < 1 ∨ 4 < m := by unfold mayP at h; omega
    clear h
    by_cases hm1 : 1 ≤ m
    · have hm2 : ¬ m ≤ 4 := by omega
      clear hm
      rcases he with rfl | rfl | rfl | rfl
      all_goals
        go_enter Tryd.func9, Tryd.ntmps9
        go_wp2
        go_ret
        exact ⟨by first | rfl | simp, rfl⟩
    · clear hm
      rcases he with rfl | rfl | rfl | rfl
      all_goals
        go_enter Tryd.func9, Tryd.ntmps9
        go_wp2
        go_ret
        exact ⟨by first | rfl | simp, rfl⟩
  · have h1 : (enc == 1) = false := by simp; omega
    have h2 : (enc == 2) = false := by simp; omega
    have h4 : (enc == 4) = false := by simp; omega
    have h5 : (enc == 5) = false := by simp; omega
    clear h he
    go_enter Tryd.func9, Tryd.ntmps9
    go_wp2
    go_ret
    exact ⟨rfl, rfl⟩
/-- a number's bytes, the highest first -/
def binL (m n : Nat) : List UInt8 := if m ≤ 2 then [n.toUInt8] else [(n / 256).toUInt8, (n % 256).toUInt8]
def prefixR (enc m n : Int) : List UInt8 × Int := if ((enc = 1 ∨ enc = 2 ∨ enc = 4 ∨ enc = 5) ∧ 1 ≤ m ∧ m ≤ 4) ∧ 0 ≤ n then (if n.toNat < 10 ^ m.toNat then (if enc = 5 then (binL m.toNat n.toNat, 0) else packR enc (dgs m.toNat n.toNat)) else ([], 13)) else ([], 1)
set_option maxRecDepth 100000 in
theorem hf1 (n : Nat) (w : World) (h : n < 256) : Calls Tryd.prog 10 #[.int .i64 (n : Int), .int .i64 1] w fun e w' => e = .returned (.string ⟨#[n.toUInt8]⟩) ∧ Below w.heap.size w w' := by
  obtain ⟨i0, hi, hz0, hz1, hz2⟩ := info_parts info
  have HU : Hid ((n : Int) = ((n.toUInt8.toNat : Nat) : Int)) := Lib1.u8_of n h
  go_enter Tryd.func10, Tryd.ntmps10
  go_wp2_with (at_make; refine wpList_make_full _ rfl _ _ 43 rfl w.heap.size 5 i0 _ 1 Tryd.underlying43 hi hz0 hz1 _ _ _ _ 1 rfl rfl (by omega) (by omega) (by rw [hz2]; omega) (by unfold maxLen; omega) (Nat.le_refl _) ?_)
  intro w0 hown0 hgrow0
  have hb0 := (Below.refl w.heap.size w).grown hgrow0 (Nat.le_refl _) (fun k h => by cases h)
  rw [made_bs] at hown0
  have hce : w0.cell? ⟨w.heap.size, 0, none⟩ = some (.int .u8 0) := by rw [hown0.cellAt 0 (by omega)]; rfl
  have hfr := hown0.frozenAt 0
  have hst := hown0.stored 0 (.int .u8 (n : Int))
  have hown1 : (w0.setCell ⟨w.heap.size, 0, none⟩ (.int .u8 (n : Int))).ownsRow w.heap.size 5 1 (.slice (some ⟨w.heap.size, 0, none⟩) 1 1) 1 (bs [n.toUInt8]) := owns_len hst.1 rfl rfl (by rw [HU.out]; rfl)
  have hcv := run_str (P := Tryd.prog) (src := 43) (dst := 9) Tryd.underlying43 Tryd.underlying5 Tryd.underlying9 hown1
  have hbb := hb0.grown hst.2 hb0.size (fun g h => by cases h; exact Nat.le_refl _)
  clear hown0 hgrow0 hst hown1
  go_wp2
  refine wp_loop_rounds 2 ?_
  rw [rounds_succ]
  go_wp2
  rw [rounds_succ]
  go_wp2
  go_ret
  exact ⟨rfl, hbb⟩
set_option maxRecDepth 100000 in
theorem hf2 (n : Nat) (w : World) (h : n < 65536) : Calls Tryd.prog 10 #[.int .i64 (n : Int), .int .i64 2] w fun e w' => e = .returned (.string ⟨#[(n / 256).toUInt8, (n % 256).toUInt8]⟩) ∧ Below w.heap.size w w' := by
  obtain ⟨i0, hi, hz0, hz1, hz2⟩ := info_parts info
  have HU : Hid ((n : Int) / 256 = (((n / 256).toUInt8.toNat : Nat) : Int)) := by have := Lib1.u8_of (n / 256) (by omega); show _ = _; omega
  have HV : Hid ((n : Int) % 256 = (((n % 256).toUInt8.toNat : Nat) : Int)) := by have := Lib1.u8_of (n % 256) (by omega); show _ = _; omega
  go_enter Tryd.func10, Tryd.ntmps10
  go_wp2_with (at_make; refine wpList_make_full _ rfl _ _ 43 rfl w.heap.size 5 i0 _ 1 Tryd.underlying43 hi hz0 hz1 _ _ _ _ 2 rfl rfl (by omega) (by omega) (by rw [hz2]; omega) (by unfold maxLen; omega) (Nat.le_refl _) ?_)
  intro w0 hown0 hgrow0
  have hb0 := (Below.refl w.heap.size w).grown hgrow0 (Nat.le_refl _) (fun k h => by cases h)
  rw [made_bs] at hown0
  have hce : w0.cell? ⟨w.heap.size, 1, none⟩ = some (.int .u8 0) := by rw [hown0.cellAt 1 (by omega)]; rfl
  have hfr := hown0.frozenAt 1
  have hst := hown0.stored 1 (.int .u8 ((n : Int) % 256))
  have hbb := hb0.grown hst.2 hb0.size (fun g h => by cases h; exact Nat.le_refl _)
  have hce2 : (w0.setCell ⟨w.heap.size, 1, none⟩ (.int .u8 ((n : Int) % 256))).cell? ⟨w.heap.size, 0, none⟩ = some (.int .u8 0) := by rw [hst.1.cellAt 0 (by omega)]; rfl
  have hfr2 := hst.1.frozenAt 0
  have hst2 := hst.1.stored 0 (.int .u8 ((n : Int) / 256))
  have hbb2 := hbb.grown hst2.2 hbb.size (fun g h => by cases h; exact Nat.le_refl _)
  have hown1 : ((w0.setCell ⟨w.heap.size, 1, none⟩ (.int .u8 ((n : Int) % 256))).setCell ⟨w.heap.size, 0, none⟩ (.int .u8 ((n : Int) / 256))).ownsRow w.heap.size 5 1 (.slice (some ⟨w.heap.size, 0, none⟩) 2 2) 2 (bs [(n / 256).toUInt8, (n % 256).toUInt8]) := owns_len hst2.1 rfl rfl (by rw [HU.out, HV.out]; rfl)
  have hcv := run_str (P := Tryd.prog) (src := 43) (dst := 9) Tryd.underlying43 Tryd.underlying5 Tryd.underlying9 hown1
  clear hown0 hgrow0 hst hst2 hown1 hbb
  go_wp2
  refine wp_loop_rounds 3 ?_
  rw [rounds_succ]
  go_wp2
  rw [rounds_succ]
  go_wp2
  rw [rounds_succ]
  go_wp2
  go_ret
  exact ⟨rfl, hbb2⟩
theorem pw_bin (m : Int) (w : World) (hm : m ≤ 9223372036854775807) : Calls Tryd.prog 11 #[.int .i64 5, .int .i64 m] w fun e w' => e = .returned (.int .i64 (widthOf 2 m)) ∧ w' = w := by
  go_enter Tryd.func11, Tryd.ntmps11
  go_wp2_with fail
  refine (width_any 2 m _ hm).mono ?_
  rintro e w' ⟨rfl, rfl⟩
  go_wp2
  go_ret
  exact ⟨rfl, rfl⟩
theorem pw_one (enc m : Int) (w : World) (h : (enc == 5) = false) (hm : m ≤ 9223372036854775807) : Calls Tryd.prog 11 #[.int .i64 enc, .int .i64 m] w fun e w' => e = .returned (.int .i64 (widthOf enc m)) ∧ w' = w := by
  go_enter Tryd.func11, Tryd.ntmps11
  go_wp2_with fail
  refine (width_any enc m _ hm).mono ?_
  rintro e w' ⟨rfl, rfl⟩
  go_wp2
  go_ret
  exact ⟨rfl, rfl⟩
theorem w_over (u m : Nat) (m1 : 1 ≤ m) (m2 : m ≤ 18) (h : ¬ u < 10 ^ m) : writeR (u : Int) (m : Int) = ([], 13) := by unfold writeR; rw [if_neg (by omega), if_neg (by simpa using h)]
theorem w_yes (u m : Nat) (m1 : 1 ≤ m) (m2 : m ≤ 18) (h : u < 10 ^ m) : writeR (u : Int) (m : Int) = (dgs m u, 0) := by unfold writeR; rw [if_neg (by omega), if_pos (by simpa using h)]; simp
abbrev Pow (w : World) : Prop := Lib.TabIs Tryd.prog w "internal/strconv.uint64pow10" .u64 Lib.pow10Tab
abbrev PPost (enc m n : Int) (w : World) (e : Ending) (w' : World) : Prop := e = .returned (.tuple #[.string ⟨(prefixR enc m n).1.toArray⟩, .int .i64 (prefixR enc m n).2]) ∧ Below w.heap.size w w'
theorem dgs_size (m n : Nat) : (ByteArray.mk (dgs m n).toArray).size = m := by simp [ByteArray.size, dgs_length]
theorem prefix_bad (enc m n : Int) (w : World) (h : ¬ mayP enc m) : Calls Tryd.prog 5 #[.int .i64 enc, .int .i64 m, .int .i64 n] w (PPost enc m n w) := by
  show Calls _ _ _ _ fun e w' => e = _ ∧ _
  have HE : Hid (prefixR enc m n = ([], 1)) := by show _ = _; unfold prefixR; rw [if_neg (fun x => h x.1)]
  have H : Hid (¬ mayP enc m) := h
  clear h
  go_enter Tryd.func5, Tryd.ntmps5
  go_wp2_with fail
  refine (may_no enc m _ H.out).mono ?_
  rintro e w' ⟨rfl, rfl⟩
  go_wp2
  go_ret2
  exact ⟨by rw [HE.out]; rfl, Below.refl _ _⟩
theorem prefix_neg (enc m n : Int) (w : World) (h : mayP enc m) (hn : n < 0) : Calls Tryd.prog 5 #[.int .i64 enc, .int .i64 m, .int .i64 n] w (PPost enc m n w) := by
  show Calls _ _ _ _ fun e w' => e = _ ∧ _
  have HE : Hid (prefixR enc m n = ([], 1)) := by show _ = _; unfold prefixR; rw [if_neg (fun x => by omega)]
  have H : Hid (mayP enc m) := h
  clear h
  go_enter Tryd.func5, Tryd.ntmps5
  go_wp2_with fail
  refine (may_yes enc m _ H.out).mono ?_
  rintro e w' ⟨rfl, rfl⟩
  go_wp2
  go_ret2
  exact ⟨by rw [HE.out]; rfl, Below.refl _ _⟩
theorem prefix_over (enc : Int) (m u : Nat) (w : World) (h : mayP enc m) (hu : (u : Int) ≤ 9223372036854775807) (ho : ¬ u < 10 ^ m) (hP : Pow w) : Calls Tryd.prog 5 #[.int .i64 enc, .int .i64 m, .int .i64 u] w (PPost enc m u w) := by
  show Calls _ _ _ _ fun e w' => e = _ ∧ _
  have hm := h.2
  have HE : Hid (prefixR enc m u = ([], 13)) := by show _ = _; unfold prefixR; rw [if_pos ⟨h, by omega⟩, if_neg (by simpa using ho)]
  have HW : Hid (writeR (u : Int) (m : Int) = ([], 13)) := w_over u m (by omega) (by omega) ho
  have H : Hid (mayP enc m) := h
  have HP : Hid (Pow w) := hP
  clear h ho hP hm
  go_enter Tryd.func5, Tryd.ntmps5
  go_wp2_with fail
  refine (may_yes enc m _ H.out).mono ?_
  rintro e w' ⟨rfl, rfl⟩
  go_wp2_with fail
  refine (write_any (u : Int) (m : Int) _ hu HP.out).mono ?_
  rintro e w1 ⟨rfl, hb⟩
  rw [HW.out]
  go_wp2
  go_ret2
  exact ⟨by rw [HE.out]; rfl, hb⟩
set_option maxRecDepth 100000 in
theorem prefix_bin (m u : Nat) (w : World) (m1 : 1 ≤ m) (m2 : m ≤ 4) (hu : (u : Int) ≤ 9223372036854775807) (ho : u < 10 ^ m) (hP : Pow w) : Calls Tryd.prog 5 #[.int .i64 5, .int .i64 m, .int .i64 u] w (PPost 5 m u w) := by
  show Calls _ _ _ _ fun e w' => e = _ ∧ _
  have h : mayP 5 m := ⟨by omega, by omega, by omega⟩
  have HE : Hid (prefixR 5 m u = (binL m u, 0)) := by show _ = _; unfold prefixR; rw [if_pos ⟨h, by omega⟩, if_pos (by simpa using ho), if_pos rfl]; simp
  have HW : Hid (writeR (u : Int) (m : Int) = (dgs m u, 0)) := w_yes u m (by omega) (by omega) ho
  have H : Hid (mayP 5 m) := h
  have HP : Hid (Pow w) := hP
  by_cases hm : m ≤ 2
  · have u1 : u < 256 := by
      have : 10 ^ m ≤ 10 ^ 2 := Nat.pow_le_pow_right (by omega) hm
      omega
    have HB : Hid (binL m u = [u.toUInt8]) := by show _ = _; unfold binL; rw [if_pos hm]
    have HWd : Hid (widthOf 2 m = 1) := by show _ = _; unfold widthOf; rw [if_neg (by omega), if_pos (by omega)]; omega
    clear h ho hP
    go_enter Tryd.func5, Tryd.ntmps5
    go_wp2_with fail
    refine (may_yes 5 m _ H.out).mono ?_
    rintro e w' ⟨rfl, rfl⟩
    go_wp2_with fail
    refine (write_any (u : Int) (m : Int) _ hu HP.out).mono ?_
    rintro e w1 ⟨rfl, hb⟩
    rw [HW.out]
    go_wp2_with fail
    refine (pw_bin m _ (by omega)).mono ?_
    rintro e w2 ⟨rfl, hw⟩
    rw [hw, HWd.out]
    clear hw
    go_wp2_with fail
    refine (hf1 u _ u1).mono ?_
    rintro e w3 ⟨rfl, hb3⟩
    go_wp2
    go_ret2
    exact ⟨by rw [HE.out]; exact ret_ss (by rw [HB.out]) rfl, hb.trans (hb3.mono hb.size)⟩
  · have u1 : u < 65536 := by
      have : 10 ^ m ≤ 10 ^ 4 := Nat.pow_le_pow_right (by omega) m2
      omega
    have HB : Hid (binL m u = [(u / 256).toUInt8, (u % 256).toUInt8]) := by show _ = _; unfold binL; rw [if_neg hm]
    have HWd : Hid (widthOf 2 m = 2) := by show _ = _; unfold widthOf; rw [if_neg (by omega), if_pos (by omega)]; omega
    clear h ho hP
    go_enter Tryd.func5, Tryd.ntmps5
    go_wp2_with fail
    refine (may_yes 5 m _ H.out).mono ?_
    rintro e w' ⟨rfl, rfl⟩
    go_wp2_with fail
    refine (write_any (u : Int) (m : Int) _ hu HP.out).mono ?_
    rintro e w1 ⟨rfl, hb⟩
    rw [HW.out]
    go_wp2_with fail
    refine (pw_bin m _ (by omega)).mono ?_
    rintro e w2 ⟨rfl, hw⟩
    rw [hw, HWd.out]
    clear hw
    go_wp2_with fail
    refine (hf2 u _ u1).mono ?_
    rintro e w3 ⟨rfl, hb3⟩
    go_wp2
    go_ret2
    exact ⟨by rw [HE.out]; exact ret_ss (by rw [HB.out]) rfl, hb.trans (hb3.mono hb.size)⟩
set_option maxRecDepth 100000 in
theorem prefix_txt (enc : Int) (m u : Nat) (w : World) (henc : enc = 1 ∨ enc = 2 ∨ enc = 4) (m1 : 1 ≤ m) (m2 : m ≤ 4) (hu : (u : Int) ≤ 9223372036854775807) (ho : u < 10 ^ m) (hP : Pow w) (hT : Tab w) : Calls Tryd.prog 5 #[.int .i64 enc, .int .i64 m, .int .i64 u] w (PPost enc m u w) := by
  show Calls _ _ _ _ fun e w' => e = _ ∧ _
  have h : mayP enc m := ⟨by omega, by omega, by omega⟩
  have HE : Hid (prefixR enc m u = packR enc (dgs m u)) := by show _ = _; unfold prefixR; rw [if_pos ⟨h, by omega⟩, if_pos (by simpa using ho), if_neg (by omega)]; simp
  have HW : Hid (writeR (u : Int) (m : Int) = (dgs m u, 0)) := w_yes u m (by omega) (by omega) ho
  have H : Hid (mayP enc m) := h
  have HP : Hid (Pow w) := hP
  have HT : Hid (Tab w) := hT
  have he5 : (enc == 5) = false := by simp; omega
  obtain ⟨d, Hd, hds⟩ : ∃ d, Hid (ByteArray.mk (dgs m u).toArray = d) ∧ d.size ≤ 4 := ⟨_, rfl, by rw [dgs_size]; exact m2⟩
  have HDL : Hid (d.data.toList = dgs m u) := by show _ = _; rw [← Hd.out]
  clear h ho hP hT henc
  go_enter Tryd.func5, Tryd.ntmps5
  go_wp2_with fail
  refine (may_yes enc m _ H.out).mono ?_
  rintro e w' ⟨rfl, rfl⟩
  go_wp2_with fail
  refine (write_any (u : Int) (m : Int) _ hu HP.out).mono ?_
  rintro e w1 ⟨rfl, hb⟩
  rw [HW.out, Hd.out]
  go_wp2_with fail
  refine (pack_any enc d _ (by omega) (HT.out.next hb)).mono ?_
  rintro e w3 ⟨rfl, hb3⟩
  rw [HDL.out]
  go_wp2
  go_ret2
  exact ⟨by rw [HE.out]; rfl, hb.trans (hb3.mono hb.size)⟩
theorem prefix_any (enc m n : Int) (w : World) (hn : n ≤ 9223372036854775807) (hP : Pow w) (hT : Tab w) : Calls Tryd.prog 5 #[.int .i64 enc, .int .i64 m, .int .i64 n] w (PPost enc m n w) := by
  by_cases h : mayP enc m
  · by_cases h0 : n < 0
    · exact prefix_neg enc m n w h h0
    · have h1 := h.1
      have h2 := h.2
      obtain ⟨u, rfl⟩ : ∃ u : Nat, n = (u : Int) := ⟨n.toNat, by omega⟩
      obtain ⟨k, rfl⟩ : ∃ k : Nat, m = (k : Int) := ⟨m.toNat, by omega⟩
      by_cases ho : u < 10 ^ k
      · by_cases h5 : enc = 5
        · subst h5
          exact prefix_bin k u w (by omega) (by omega) hn ho hP
        · exact prefix_txt enc k u w (by omega) (by omega) (by omega) hn ho hP hT
      · exact prefix_over enc k u w h hn ho hP
  · exact prefix_bad enc m n w h
end Go.Proofs.YtmgnmkolijaidaaDoor.Pre
