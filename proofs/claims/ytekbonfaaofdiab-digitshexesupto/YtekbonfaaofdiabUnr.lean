/- Unhex, the document's. -/
import Derived.Test.YtekbonfaaofdiabUnh
namespace Go.Proofs.Ytekbonfaaofdiab.Unr
open Go.RowKit Lib0 Six Unh
attribute [local go_sem ↓] Go.wp_at_zero Go.wp_at_succ
theorem at_hx (c : UInt8) (w : World) : Calls Try.prog 14 #[.string (ByteArray.mk #[48, 49, 50, 51, 52, 53, 54, 55, 56, 57, 65, 66, 67, 68, 69, 70]), .int .u8 (c.toNat : Int)] w fun e w' => e = .returned (.int .i64 (six c)) ∧ w' = w :=
  at_any _ c w (by decide)
theorem add16 (a b : Int) (h1 : 0 ≤ a) (h2 : a < 16) (h3 : 0 ≤ b) (h4 : b < 16) : IntKind.u8.wrap (IntKind.i64.wrap (IntKind.i64.wrap (16 * a) + b)) = ((((16 * a + b).toNat.toUInt8).toNat : Nat) : Int) := by
  rw [wrap_i64 (16 * a) (by omega) (by omega), wrap_i64 _ (by omega) (by omega), wrap_u8 _ (by omega) (by omega)]
  simp only [UInt8.toNat_ofNat', Nat.toUInt8]
  omega
theorem isSix_no (c : UInt8) (h : isSix c = false) : six c < 0 := by simpa [isSix] using h
theorem isSix_yes (c : UInt8) (h : isSix c = true) : 0 ≤ six c := by simpa [isSix] using h
set_option maxRecDepth 100000 in
set_option maxHeartbeats 1600000 in
theorem unhex_ref (s : ByteArray) (w : World) (hs : s.size ≤ 4194304) :
    Calls Try.prog 7 #[.string s] w fun e w' => e = .returned (.tuple #[.string ⟨(unhexR s.data.toList).1.toArray⟩, .int .i64 (unhexR s.data.toList).2.1, .int .i64 (unhexR s.data.toList).2.2]) ∧ Below w.heap.size w w' := by
  obtain ⟨i0, hi, hz0, hz1, hz2⟩ := info_parts info
  have hl := len_eq s
  have HL : Hid (s.data.toList.length = s.size) := hl
  clear hl
  go_enter Try.func7, Try.ntmps7
  go_wp2
  go_loop [5] (fun i => ∃ k : Nat, k ≤ s.size ∧ i = .int .i64 k ∧ (s.data.toList.take k).all isSix = true) (fun i => s.size - (intOf i).toNat)
  case atStart => exact ⟨0, Nat.zero_le _, rfl, rfl⟩
  case round =>
    obtain ⟨k, hk, rfl, hal⟩ := hrel
    have Hal : Hid ((s.data.toList.take k).all isSix = true) := hal
    clear hal
    by_cases hlt : k < s.size
    · go_wp2_with fail
      refine (at_hx s[k] _).mono ?_
      rintro e w' ⟨rfl, rfl⟩
      cases hp : isSix s[k]
      · have hn := isSix_no _ hp
        have HE : Hid (unhexR s.data.toList = ([], 11, (k : Int))) := by
          have h1 := fuL_hit isSix s.data.toList k (by rw [HL.out]; exact hlt) Hal.out hp
          show _ = _
          rw [r_char _ (by rw [h1, HL.out]; exact hlt), h1]
        clear hp
        go_wp2
        go_ret3
        exact ⟨by rw [HE.out]; rfl, Below.refl _ _⟩
      · have hn := isSix_yes _ hp
        have Hp : Hid (isSix s[k] = true) := hp
        clear hp
        go_wp2
        go_round
        case rel => exact ⟨k + 1, by omega, by go_num, all_snoc isSix s k hlt Hal.out Hp.out⟩
        case measure => simp [intOf]; omega
    · have HA : Hid (s.data.toList.all isSix = true) := by have := Hal.out; rwa [take_all s k (by omega)] at this
      have HF : Hid (¬ fuL isSix s.data.toList < s.data.toList.length) := by have := fuL_all _ _ HA.out; show ¬ _; omega
      clear Hal
      by_cases hodd : s.size % 2 = 1
      · have hev : (((s.size : Int) % 2) == 1) = true := by simp; omega
        have HE : Hid (unhexR s.data.toList = ([], 10, (s.size : Int))) := by
          show _ = _
          rw [r_odd _ HF.out (by rw [HL.out]; exact hodd), HL.out]
        go_wp2
        go_ret3
        exact ⟨by rw [HE.out]; rfl, Below.refl _ _⟩
      · have hev : (((s.size : Int) % 2) == 1) = false := by simp; omega
        have HE : Hid (unhexR s.data.toList = (unhexL s.data.toList, 0, 0)) := r_yes _ HF.out (by rw [HL.out]; exact hodd)
        go_wp2
        go_loopw [7, 8] (fun v i wr => ∃ j : Nat, j ≤ s.size ∧ j % 2 = 0 ∧ i = .int .i64 j ∧ wr.ownsRow w.heap.size 5 1 v (j / 2) (bs (unhexL (s.data.toList.take j))) ∧ Below w.heap.size w wr) (fun _ i _ => s.size - (intOf i).toNat)
        case atStart => exact ⟨0, Nat.zero_le _, rfl, rfl, World.ownsRow_nil _ _ _ _, Below.refl _ _⟩
        case round =>
          obtain ⟨j, hj, hje, rfl, hown, hb⟩ := hrel
          by_cases hlt : j < s.size
          · have hlt1 : j + 1 < s.size := by omega
            have h1 : (0 : Int) ≤ (j : Int) := by omega
            have h2 : (j : Int) < (s.size : Int) := by omega
            have h3 : (j : Int) + 1 < (s.size : Int) := by omega
            have x1 : 0 ≤ six s[j] := six_of s HA.out j hlt
            have x2 : 0 ≤ six s[j + 1] := six_of s HA.out (j + 1) hlt1
            have y1 := (six_bd s[j]).2
            have y2 := (six_bd s[j + 1]).2
            have hbs := hb.size
            have hw1 : IntKind.i64.wrap ((j : Int) + 1) = (j : Int) + 1 := wrap_i64 _ (by omega) (by omega)
            go_wp2_with fail
            go_region_held3 (fun _ => True) (trivial)
              (first
                | (refine step_append_lies _ (by rfl) _ _ _ (by rfl) w.heap.size 5 i0 _ 1 1 Try.underlying29 hi hz0 hz1 hz2 rfl (by omega) u7 (j / 2) _ (by rfl) ((hown.alloc _).drew) ⟨wr.heap.size, 0, none⟩ 1 1 _ (by rfl) (by rfl) (World.news_of_block (heap_alloc_new wr _)) (by simp [Value.oneCell']) (by omega) (by unfold maxLen; omega) (by omega) (by simp; omega) (wr.heap.size + 1) (by simp) ?_; intro gg cap w1 hown1 hgrow hat hltg)
                | (go_at_call 14; refine (at_hx _ _).mono ?_; rintro e w'' ⟨rfl, rfl⟩))
            all_goals
              go_wp2
              go_roundw
              case rel => exact ⟨j + 2, by omega, by omega, by go_num, owns_len hown1 rfl (by omega) (by rw [take_two s j hlt1, unhexL_snoc _ _ _ (by rw [List.length_take_of_le (by simpa using hj)]; exact hje), bs_append]; simp [bs, add16 _ _ x1 y1 x2 y2]), below_app hb hbs hown hgrow⟩
              case measure => simp [intOf]; omega
          · have hcv := run_str (P := Try.prog) (src := 29) (dst := 9) Try.underlying29 Try.underlying5 Try.underlying9 hown
            go_wp2
            go_ret3
            exact ⟨by rw [HE.out]; exact ret_str3 (by rw [take_all s j (by omega)]), hb⟩
end Go.Proofs.Ytekbonfaaofdiab.Unr
