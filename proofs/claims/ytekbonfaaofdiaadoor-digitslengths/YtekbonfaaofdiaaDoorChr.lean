/- The document's Char, char and Width; Byte of one character a byte. -/
import Derived.Test.YtekbonfaaofdiaaDoorPkr
import Derived.Test.YtekbonfaaofdiaaDoorLib1
import Derived.Test.YtekbonfaaofdiaaDoorUnp
namespace Go.Proofs.YtekbonfaaofdiaaDoor.Chr
open Go.RowKit Lib0 Chars Ebc Join Frm Spl Pck Rdd Unp Cod Pkr
theorem dec_ebc_all : ∀ m : Fin 256, sgn (UInt8.ofNat m.val) = true → dec (ebc (UInt8.ofNat m.val)) = UInt8.ofNat m.val := by decide +kernel
theorem dec_ebc (c : UInt8) (h : sgn c = true) : dec (ebc c) = c := by
  have := dec_ebc_all ⟨c.toNat, c.toNat_lt⟩
  simp only [UInt8.ofNat_toNat] at this
  exact this h
theorem back_all : ∀ m : Fin 256, sgn (dec (UInt8.ofNat m.val)) = true → ebc (dec (UInt8.ofNat m.val)) = UInt8.ofNat m.val := by decide +kernel
theorem back_dec (c : UInt8) (h : sgn (dec c) = true) : ebc (dec c) = c := by
  have := back_all ⟨c.toNat, c.toNat_lt⟩
  simp only [UInt8.ofNat_toNat] at this
  exact this h
/-- a character is one byte's alone -/
theorem code_chr (enc : Int) (c : UInt8) (h : enc = 1 ∨ enc = 4 ∨ enc = 5) (hf : fit enc c = true) : Rdd.chr enc (codeB enc c) = c := by
  rcases h with rfl | rfl | rfl
  · simp [Rdd.chr, codeB]
  · rw [fit4] at hf
    simp [Rdd.chr, codeB, hf, dec_ebc c hf]
  · simp [Rdd.chr, codeB]
theorem chr_code (enc : Int) (b : UInt8) (h : enc = 1 ∨ enc = 4 ∨ enc = 5) (hf : fit enc (Rdd.chr enc b) = true) : codeB enc (Rdd.chr enc b) = b := by
  rcases h with rfl | rfl | rfl
  · simp [Rdd.chr, codeB]
  · rw [fit4] at hf
    simp only [Rdd.chr, if_true] at hf
    simp [Rdd.chr, codeB, hf, back_dec b hf]
  · simp [Rdd.chr, codeB]
/-- no character below k has the byte b -/
def noB (enc : Int) (b : UInt8) (k : Nat) : Prop := ∀ j, j < k → fit enc (UInt8.ofNat j) = true → codeB enc (UInt8.ofNat j) ≠ b
theorem noB_zero (enc : Int) (b : UInt8) : noB enc b 0 := fun j hj => absurd hj (by omega)
theorem noB_next {enc : Int} {b : UInt8} {k : Nat} (h : noB enc b k) (hk : fit enc (UInt8.ofNat k) = true → codeB enc (UInt8.ofNat k) ≠ b) : noB enc b (k + 1) := by
  intro j hj hf
  by_cases h1 : j < k
  · exact h j h1 hf
  · obtain rfl : j = k := by omega
    exact hk hf
theorem noB_end {enc : Int} {b : UInt8} (he : enc = 1 ∨ enc = 4 ∨ enc = 5) (h : noB enc b 256) : fit enc (Rdd.chr enc b) = false := by
  cases hf : fit enc (Rdd.chr enc b)
  · rfl
  · have := h (Rdd.chr enc b).toNat (Rdd.chr enc b).toNat_lt (by rw [UInt8.ofNat_toNat]; exact hf)
    rw [UInt8.ofNat_toNat] at this
    exact absurd (chr_code enc b he hf) this
theorem toNat_ofNat (k : Nat) (h : k < 256) : (UInt8.ofNat k).toNat = k := by simp only [UInt8.toNat_ofNat']; omega
theorem code_int (enc : Int) (k : Int) (c : UInt8) (w : World) (hk : k = (c.toNat : Int)) (h : enc = 1 ∨ enc = 4 ∨ enc = 5) :
    Calls Tryd.prog 28 #[.int .i64 enc, .int .u8 k] w fun e w' => e = .returned (.tuple #[.int .u8 ((codeB enc c).toNat : Int), .bool (fit enc c)]) ∧ ∃ n, w' = w.drewN n := by subst hk; exact code_any enc c w h
/-- what Char answers -/
def charB (enc : Int) (b : UInt8) : UInt8 := if fit enc (Rdd.chr enc b) then Rdd.chr enc b else 0
set_option maxRecDepth 100000 in
theorem char_any (enc : Int) (b : UInt8) (w : World) (h : enc = 1 ∨ enc = 4 ∨ enc = 5) :
    Calls Tryd.prog 52 #[.int .i64 enc, .int .u8 (b.toNat : Int)] w fun e w' => e = .returned (.tuple #[.int .u8 ((charB enc b).toNat : Int), .bool (fit enc (Rdd.chr enc b))]) ∧ ∃ n, w' = w.drewN n := by
  have HN : Hid (enc = 1 ∨ enc = 4 ∨ enc = 5) := h
  clear h
  go_enter Tryd.func52, Tryd.ntmps52
  go_wp2
  go_loopw [6] (fun i wr => ∃ k : Nat, k ≤ 256 ∧ i = .int .i64 k ∧ noB enc b k ∧ ∃ n, wr = w.drewN n) (fun i _ => 256 - (intOf i).toNat)
  case atStart => exact ⟨0, Nat.zero_le _, rfl, noB_zero _ _, 0, rfl⟩
  case round =>
    obtain ⟨k, hkk, rfl, hno, n1, hw1⟩ := hrel
    have Hno : Hid (noB enc b k) := hno
    have Hw1 : Hid (wr = w.drewN n1) := hw1
    clear hno hw1
    by_cases hlt : k < 256
    · obtain ⟨c, Hc, hck, hcb⟩ : ∃ c : UInt8, Hid (UInt8.ofNat k = c) ∧ (k : Int) = (c.toNat : Int) ∧ Hid (c.toNat = k) := ⟨_, rfl, by rw [toNat_ofNat k hlt], toNat_ofNat k hlt⟩
      have Hck : Hid ((k : Int) = (c.toNat : Int)) := hck
      clear hck
      have hl2 : (k : Int) < 256 := by omega
      go_wp2_with fail
      refine (code_int enc (k : Int) c _ Hck.out HN.out).mono ?_
      rintro e x ⟨rfl, nq, hw⟩
      have Hw : Hid (x = w.drewN (n1 + nq)) := by show _ = _; rw [hw, Hw1.out, World.drewN_drewN]
      clear hw
      cases hf : fit enc c
      · have Hn : Hid (noB enc b (k + 1)) := noB_next Hno.out (by rw [Hc.out, hf]; intro h; cases h)
        clear hf
        go_wp2
        go_roundw
        case rel => exact ⟨k + 1, by omega, by go_num, Hn.out, _, Hw.out⟩
        case measure => simp [intOf]; omega
      · cases he : codeB enc c == b
        · have Hn : Hid (noB enc b (k + 1)) := noB_next Hno.out (by rw [Hc.out]; intro _; exact beq_eq_false_iff_ne.1 he)
          have hq : (((codeB enc c).toNat : Int) == (b.toNat : Int)) = false := by rw [eq_u8]; exact he
          clear hf he
          go_wp2
          go_roundw
          case rel => exact ⟨k + 1, by omega, by go_num, Hn.out, _, Hw.out⟩
          case measure => simp [intOf]; omega
        · have hq : (((codeB enc c).toNat : Int) == (b.toNat : Int)) = true := by rw [eq_u8]; exact he
          have hcc : Rdd.chr enc b = c := by rw [← beq_iff_eq.1 he]; exact code_chr enc c HN.out hf
          have H1 : Hid (fit enc (Rdd.chr enc b) = true) := by show _ = _; rw [hcc, hf]
          have H2 : Hid (charB enc b = c) := by show _ = _; unfold charB; rw [H1.out, hcc]; rfl
          clear hf he hcc
          go_wp2
          go_ret2
          exact ⟨by rw [H1.out, H2.out]; exact ret_xb Hck.out, _, Hw.out⟩
    · have H1 : Hid (fit enc (Rdd.chr enc b) = false) := by
        have := Hno.out
        rw [show k = 256 by omega] at this
        exact noB_end HN.out this
      have H2 : Hid (charB enc b = 0) := by show _ = _; unfold charB; rw [H1.out]; rfl
      go_wp2
      go_ret2
      exact ⟨by rw [H1.out, H2.out]; rfl, _, Hw1.out⟩
/-- what char answers, of a half -/
def charH (h : Nat) : UInt8 := if hlf (48 + h).toUInt8 then (48 + h).toUInt8 else 0
theorem charH_13 : charH 13 = 61 := by decide
theorem charH_big : ∀ h : Fin 16, 9 < h.val → h.val ≠ 13 → charH h.val = 0 := by decide
theorem charH_lo : ∀ h : Fin 16, h.val ≤ 9 → ((charH h.val).toNat : Int) = 48 + (h.val : Int) := by decide
theorem ret_u8 {a b : Int} (h : a = b) : Ending.returned (.int .u8 a) = .returned (.int .u8 b) := by rw [h]
theorem half_any (h : Nat) (w : World) (hh : h < 16) : Calls Tryd.prog 53 #[.int .i64 (h : Int)] w fun e w' => e = .returned (.int .u8 ((charH h).toNat : Int)) ∧ w' = w := by
  by_cases h1 : h = 13
  · subst h1
    go_enter Tryd.func53, Tryd.ntmps53
    go_wp2
    go_ret
    exact ⟨rfl, rfl⟩
  · have q1 : ((h : Int) == 13) = false := beq_eq_false_iff_ne.mpr (by omega)
    by_cases h2 : 9 < h
    · have HE : Hid (charH h = 0) := charH_big ⟨h, hh⟩ h2 h1
      have q2 : (9 : Int) < (h : Int) := by omega
      clear h1
      go_enter Tryd.func53, Tryd.ntmps53
      go_wp2
      go_ret
      exact ⟨ret_u8 (by rw [HE.out]; rfl), rfl⟩
    · have HE : Hid (((charH h).toNat : Int) = 48 + (h : Int)) := charH_lo ⟨h, hh⟩ (by show h ≤ 9; omega)
      have q2 : ¬ (9 : Int) < (h : Int) := by omega
      clear h1
      go_enter Tryd.func53, Tryd.ntmps53
      go_wp2
      go_ret
      exact ⟨ret_u8 (by rw [HE.out]), rfl⟩
end Go.Proofs.YtekbonfaaofdiaaDoor.Chr
