/- Characters as halves of bytes. -/
import Derived.Test.YtmgnmkolijaidaaDoorEbc
namespace Go.Proofs.YtmgnmkolijaidaaDoor.Join
open Go.RowKit Lib0 Chars Ebc
/-- a character's half -/
def hv (c : UInt8) : Int := (c.toNat : Int) - 48
theorem hv_bd (c : UInt8) (h : hlf c = true) : 0 ≤ hv c ∧ hv c < 16 := by
  have := of_decide_eq_true h; unfold hv; omega
/-- pairs of halves; an odd number is filled behind -/
def joinL : List UInt8 → List UInt8
  | a :: b :: l => (16 * hv a + hv b).toNat.toUInt8 :: joinL l
  | [a] => [(16 * hv a + 15).toNat.toUInt8]
  | [] => []
theorem joinL_two : ∀ (l : List UInt8) (a b : UInt8), l.length % 2 = 0 → joinL (l ++ [a, b]) = joinL l ++ [(16 * hv a + hv b).toNat.toUInt8]
  | [], a, b, _ => rfl
  | [x], a, b, h => by simp at h
  | x :: y :: l, a, b, h => by
    simp only [List.cons_append, joinL]
    rw [joinL_two l a b (by simp only [List.length_cons] at h; omega)]
theorem joinL_one : ∀ (l : List UInt8) (a : UInt8), l.length % 2 = 0 → joinL (l ++ [a]) = joinL l ++ [(16 * hv a + 15).toNat.toUInt8]
  | [], a, _ => rfl
  | [x], a, h => by simp at h
  | x :: y :: l, a, h => by
    simp only [List.cons_append, joinL]
    rw [joinL_one l a (by simp only [List.length_cons] at h; omega)]
theorem or16n : ∀ a b : Fin 16, (16 * a.val) ||| b.val = 16 * a.val + b.val := by decide
theorem or16 (a b : Int) (h1 : 0 ≤ a) (h2 : a < 16) (h3 : 0 ≤ b) (h4 : b < 16) : bits .or .u8 (a * 16) b = ((((16 * a + b).toNat.toUInt8).toNat : Nat) : Int) := by
  obtain ⟨A, rfl⟩ := Int.eq_ofNat_of_zero_le h1
  obtain ⟨B, rfl⟩ := Int.eq_ofNat_of_zero_le h3
  rw [u8_or _ _ (by omega) (by omega) (by omega) (by omega)]
  have e1 : ((A : Int) * 16).toNat = 16 * A := by omega
  have e2 : ((B : Int)).toNat = B := by omega
  have e3 : (16 * (A : Int) + (B : Int)).toNat = 16 * A + B := by omega
  rw [e1, e2, e3, or16n ⟨A, by omega⟩ ⟨B, by omega⟩]
  simp only [UInt8.toNat_ofNat', Nat.toUInt8]
  omega
theorem take_two (s : ByteArray) (j : Nat) (h : j + 1 < s.size) : s.data.toList.take (j + 2) = s.data.toList.take j ++ [s[j], s[j + 1]] := by
  rw [take_snoc s (j + 1) h, take_snoc s j (by omega)]; simp
theorem take_one (s : ByteArray) (j : Nat) (h : j < s.size) (h2 : s.size ≤ j + 1) : s.data.toList.take (j + 2) = s.data.toList.take j ++ [s[j]] := by
  rw [← take_snoc s j h, List.take_of_length_le (by simp; omega), List.take_of_length_le (by simp; omega)]
set_option maxRecDepth 100000 in
set_option maxHeartbeats 800000 in
theorem join_any (s : ByteArray) (w : World) (hs : s.size ≤ 4194304) (ha : s.data.toList.all hlf = true) :
    Calls Tryd.prog 22 #[.string s] w fun e w' => e = .returned (.string ⟨(joinL s.data.toList).toArray⟩) ∧ Below w.heap.size w w' := by
  obtain ⟨i0, hi, hz0, hz1, hz2⟩ := info_parts info
  have HA : Hid (s.data.toList.all hlf = true) := ha
  have HL : Hid (s.data.toList.length = s.size) := by show _ = _; simp
  clear ha
  go_enter Tryd.func22, Tryd.ntmps22
  go_wp2_with (at_make; refine wpList_make_own _ rfl _ _ 43 rfl w.heap.size 5 i0 _ 1 Tryd.underlying43 hi hz0 hz1 _ _ _ (s.size / 2 + 1) rfl rfl (by omega) (by rw [hz2]; omega) (by unfold maxLen; omega) (Nat.le_refl _) ?_)
  intro w0 hown0 hgrow0
  have hb0 := (Below.refl w.heap.size w).grown hgrow0 (Nat.le_refl _) (fun k h => by cases h)
  go_wp2
  go_loopw [3, 4] (fun v i wr => ∃ j : Nat, j ≤ s.size + 1 ∧ j % 2 = 0 ∧ i = .int .i64 j ∧ wr.ownsRow w.heap.size 5 1 v (j / 2) (bs (joinL (s.data.toList.take j))) ∧ Below w.heap.size w wr) (fun _ i _ => s.size + 1 - (intOf i).toNat)
  case atStart => exact ⟨0, Nat.zero_le _, rfl, rfl, hown0, hb0⟩
  case round =>
    obtain ⟨j, hj, hje, rfl, hown, hb⟩ := hrel
    by_cases hlt : j < s.size
    · have hh := hv_bd _ (all_at hlf s HA.out j hlt)
      unfold hv at hh
      have x1 : (48 : Int) ≤ (s[j].toNat : Int) := by omega
      have x2 : (s[j].toNat : Int) < 64 := by omega
      have hbs := hb.size
      have hjl : Hid ((s.data.toList.take j).length % 2 = 0) := by show _ = _; rw [List.length_take_of_le (by rw [HL.out]; omega)]; exact hje
      clear hh
      by_cases hlt1 : j + 1 < s.size
      · have hh := hv_bd _ (all_at hlf s HA.out (j + 1) hlt1)
        unfold hv at hh
        have x3 : (48 : Int) ≤ (s[j + 1].toNat : Int) := by omega
        have x4 : (s[j + 1].toNat : Int) < 64 := by omega
        clear hh
        go_wp2_with (at_builtin; refine wpList_append_lies _ rfl _ _ _ rfl w.heap.size 5 i0 _ 1 1 Tryd.underlying43 hi hz0 hz1 hz2 rfl (by omega) u3 (j / 2) _ rfl (hown.alloc _) ⟨wr.heap.size, 0, none⟩ 1 1 _ rfl (by rfl) (World.news_of_block (heap_alloc_new wr _)) (by simp [Value.oneCell']) (by omega) (by unfold maxLen; omega) (by omega) (by simp; omega) (wr.heap.size + 1) (by simp) ?_)
        intro g cap w1 hown1 hgrow hat hltg
        go_wp2
        go_roundw
        case rel => exact ⟨j + 2, by omega, by omega, by go_num, owns_len hown1 rfl (by omega) (by rw [take_two s j hlt1, joinL_two _ _ _ hjl.out, bs_append]; simp [bs, hv, or16 ((s[j].toNat : Int) - 48) ((s[j + 1].toNat : Int) - 48) (by omega) (by omega) (by omega) (by omega)]), below_app0 hb hbs hown hgrow⟩
        case measure => simp [intOf]; omega
      · go_wp2_with (at_builtin; refine wpList_append_lies _ rfl _ _ _ rfl w.heap.size 5 i0 _ 1 1 Tryd.underlying43 hi hz0 hz1 hz2 rfl (by omega) u3 (j / 2) _ rfl (hown.alloc _) ⟨wr.heap.size, 0, none⟩ 1 1 _ rfl (by rfl) (World.news_of_block (heap_alloc_new wr _)) (by simp [Value.oneCell']) (by omega) (by unfold maxLen; omega) (by omega) (by simp; omega) (wr.heap.size + 1) (by simp) ?_)
        intro g cap w1 hown1 hgrow hat hltg
        go_wp2
        go_roundw
        case rel => exact ⟨j + 2, by omega, by omega, by go_num, owns_len hown1 rfl (by omega) (by rw [take_one s j hlt (by omega), joinL_one _ _ hjl.out, bs_append]; simp [bs, hv, or16 ((s[j].toNat : Int) - 48) 15 (by omega) (by omega) (by omega) (by omega)]), below_app0 hb hbs hown hgrow⟩
        case measure => simp [intOf]; omega
    · have hcv := run_str (P := Tryd.prog) (src := 43) (dst := 9) Tryd.underlying43 Tryd.underlying5 Tryd.underlying9 hown
      go_wp2
      go_ret
      exact ⟨ret_str (by rw [take_all s j (by omega)]), hb⟩
end Go.Proofs.YtmgnmkolijaidaaDoor.Join
