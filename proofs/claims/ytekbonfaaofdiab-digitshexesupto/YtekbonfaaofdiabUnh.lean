/- Unhex, the program's. -/
import Derived.Test.YtekbonfaaofdiabSix
namespace Go.Proofs.Ytekbonfaaofdiab.Unh
open Go.RowKit Lib0 Six
attribute [local go_sem ↓] Go.wp_at_zero Go.wp_at_succ
theorem info : (Try.prog.info? 5).map (fun i => (i.zero, i.size, i.bytes)) = some (some (.int .u8 0), 1, 1) := by kernel_rfl
/-- what Unhex answers -/
def unhexR (l : List UInt8) : List UInt8 × Int × Int := if fuL isSix l < l.length then ([], 11, (fuL isSix l : Int)) else if l.length % 2 = 1 then ([], 10, (l.length : Int)) else (unhexL l, 0, 0)
theorem r_char (l : List UInt8) (h : fuL isSix l < l.length) : unhexR l = ([], 11, (fuL isSix l : Int)) := by simp [unhexR, h]
theorem r_odd (l : List UInt8) (h : ¬ fuL isSix l < l.length) (h2 : l.length % 2 = 1) : unhexR l = ([], 10, (l.length : Int)) := by simp [unhexR, h, h2]
theorem r_yes (l : List UInt8) (h : ¬ fuL isSix l < l.length) (h2 : ¬ l.length % 2 = 1) : unhexR l = (unhexL l, 0, 0) := by simp [unhexR, h, h2]
theorem len_eq (s : ByteArray) : s.data.toList.length = s.size := by simp
set_option maxRecDepth 100000 in
set_option maxHeartbeats 1600000 in
theorem unhex_yes (s : ByteArray) (w : World) (hs : s.size ≤ 4194304) (ha : s.data.toList.all isSix = true) (h2 : s.size % 2 = 0) :
    Calls Try.prog 6 #[.string s] w fun e w' => e = .returned (.tuple #[.string ⟨(unhexL s.data.toList).toArray⟩, .int .i64 0, .int .i64 0]) ∧ Below w.heap.size w w' := by
  obtain ⟨i0, hi, hz0, hz1, hz2⟩ := info_parts info
  have hfu : Hid (fuL isSix s.data.toList = s.size) := by show _ = _; rw [fuL_all _ _ ha]; simp
  have HA : Hid (s.data.toList.all isSix = true) := ha
  clear ha
  have hev : (((s.size : Int) % 2) == 1) = false := by simp; omega
  go_enter Try.func6, Try.ntmps6
  go_wp2_with fail
  refine (fu_isSix s _ hs).mono ?_
  rintro e w' ⟨rfl, rfl⟩
  rw [hfu.out]
  go_wp2_with (at_make; refine wpList_make_own _ rfl _ _ 29 rfl w'.heap.size 5 i0 _ 1 Try.underlying29 hi hz0 hz1 _ _ _ (s.size / 2) rfl rfl (by omega) (by rw [hz2]; omega) (by unfold maxLen; omega) (Nat.le_refl _) ?_)
  intro w0 hown0 hgrow0
  have hb0 := (Below.refl w'.heap.size w').grown hgrow0 (Nat.le_refl _) (fun k h => by cases h)
  go_wp2
  go_loopw [6, 7] (fun v i wr => ∃ j : Nat, j ≤ s.size ∧ j % 2 = 0 ∧ i = .int .i64 j ∧ wr.ownsRow w'.heap.size 5 1 v (j / 2) (bs (unhexL (s.data.toList.take j))) ∧ Below w'.heap.size w' wr) (fun _ i _ => s.size - (intOf i).toNat)
  case atStart => exact ⟨0, Nat.zero_le _, rfl, rfl, hown0, hb0⟩
  case round =>
    obtain ⟨j, hj, hje, rfl, hown, hb⟩ := hrel
    by_cases hlt : j < s.size
    · have hlt1 : j + 1 < s.size := by omega
      have h1 : (0 : Int) ≤ (j : Int) := by omega
      have h2 : (j : Int) < (s.size : Int) := by omega
      have h3 : (j : Int) + 1 < (s.size : Int) := by omega
      have x1 : 0 ≤ six s[j] := six_of s HA.out j hlt
      have x2 : 0 ≤ six s[j + 1] := six_of s HA.out (j + 1) hlt1
      have y1 := (six_bd s[j]).2
      have y2 := (six_bd s[j + 1]).2
      have hbs := hb.size
      have hw1 : IntKind.i64.wrap ((j : Int) + 1) = (j : Int) + 1 := wrap_i64 _ (by omega) (by omega)
      go_wp2_with fail
      go_region_held3 (fun _ => True) (trivial)
        (first
          | (refine step_append_lies _ (by rfl) _ _ _ (by rfl) w'.heap.size 5 i0 _ 1 1 Try.underlying29 hi hz0 hz1 hz2 rfl (by omega) u6 (j / 2) _ (by rfl) ((hown.alloc _).drew) ⟨wr.heap.size, 0, none⟩ 1 1 _ (by rfl) (by rfl) (World.news_of_block (heap_alloc_new wr _)) (by simp [Value.oneCell']) (by omega) (by unfold maxLen; omega) (by omega) (by simp; omega) (wr.heap.size + 1) (by simp) ?_; intro gg cap w1 hown1 hgrow hat hltg)
          | (go_at_call 13; refine (sixteenth_any _ _ ?_).mono ?_; (first | exact x1 | exact x2 | (simpa using x2)); rintro e w'' ⟨rfl, rfl⟩))
      all_goals
        go_wp2
        go_roundw
        case rel => exact ⟨j + 2, by omega, by omega, by go_num, owns_len hown1 rfl (by omega) (by rw [take_two s j hlt1, unhexL_snoc _ _ _ (by rw [List.length_take_of_le (by simpa using hj)]; exact hje), bs_append]; simp [bs, or16 _ _ x1 y1 x2 y2]), below_app hb hbs hown hgrow⟩
        case measure => simp [intOf]; omega
    · have hcv := run_str (P := Try.prog) (src := 29) (dst := 9) Try.underlying29 Try.underlying5 Try.underlying9 hown
      go_wp2
      go_ret3
      exact ⟨ret_str3 (by rw [take_all s j (by omega)]), hb⟩

set_option maxRecDepth 100000 in
theorem unhex_char (s : ByteArray) (w : World) (hs : s.size ≤ 4194304) (ha : fuL isSix s.data.toList < s.size) :
    Calls Try.prog 6 #[.string s] w fun e w' => e = .returned (.tuple #[.string ⟨#[]⟩, .int .i64 11, .int .i64 (fuL isSix s.data.toList)]) ∧ Below w.heap.size w w' := by
  have ha2 : (fuL isSix s.data.toList : Int) < (s.size : Int) := by omega
  go_enter Try.func6, Try.ntmps6
  go_wp2_with fail
  refine (fu_isSix s _ hs).mono ?_
  rintro e w' ⟨rfl, rfl⟩
  go_wp2
  go_ret3
  exact ⟨rfl, Below.refl _ _⟩
set_option maxRecDepth 100000 in
theorem unhex_odd (s : ByteArray) (w : World) (hs : s.size ≤ 4194304) (ha : s.data.toList.all isSix = true) (h2 : s.size % 2 = 1) :
    Calls Try.prog 6 #[.string s] w fun e w' => e = .returned (.tuple #[.string ⟨#[]⟩, .int .i64 10, .int .i64 (s.size : Int)]) ∧ Below w.heap.size w w' := by
  have hfu : Hid (fuL isSix s.data.toList = s.size) := by show _ = _; rw [fuL_all _ _ ha]; simp
  clear ha
  have hev : (((s.size : Int) % 2) == 1) = true := by simp; omega
  go_enter Try.func6, Try.ntmps6
  go_wp2_with fail
  refine (fu_isSix s _ hs).mono ?_
  rintro e w' ⟨rfl, rfl⟩
  rw [hfu.out]
  go_wp2
  go_ret3
  exact ⟨rfl, Below.refl _ _⟩
theorem unhex_any (s : ByteArray) (w : World) (hs : s.size ≤ 4194304) :
    Calls Try.prog 6 #[.string s] w fun e w' => e = .returned (.tuple #[.string ⟨(unhexR s.data.toList).1.toArray⟩, .int .i64 (unhexR s.data.toList).2.1, .int .i64 (unhexR s.data.toList).2.2]) ∧ Below w.heap.size w w' := by
  have hl := len_eq s
  by_cases h : fuL isSix s.data.toList < s.data.toList.length
  · rw [r_char _ h]
    exact unhex_char s w hs (by omega)
  · have ha : s.data.toList.all isSix = true := fuL_eq _ _ (by have := fuL_le isSix s.data.toList; omega)
    by_cases h2 : s.data.toList.length % 2 = 1
    · rw [r_odd _ h h2, hl]
      exact unhex_odd s w hs ha (by omega)
    · rw [r_yes _ h h2]
      exact unhex_yes s w hs ha (by omega)
end Go.Proofs.Ytekbonfaaofdiab.Unh
