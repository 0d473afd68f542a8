/- Digits out of a text; rows of texts beside a trie. -/
import Derived.Test.YtheeicjoblkfnaaGreatDoorTs
import Derived.Test.YtheeicjoblkfnaaGreatDoorSg
namespace Go.Proofs.YtheeicjoblkfnaaGreatDoor.Rd
set_option linter.unusedVariables false
set_option linter.unusedSimpArgs false
open Go.RowKit Lib0 Kb Rp Rw Rs Ls Ms Ts
abbrev tS : TypeId := 9
def dg1 (b : UInt8) : UInt8 := UInt8.ofNat (48 + (b.toNat + 2) % 10)
theorem dg1_nat (b : UInt8) : (dg1 b).toNat = 48 + (b.toNat + 2) % 10 := by simp [dg1]; omega
theorem dg1_isD (b : UInt8) : isD (dg1 b) = true := by rw [isD_iff, dg1_nat]; omega
def dgL (s : K) : K := if s = [] then [48] else (s.take 19).map dg1
abbrev sB (k : K) : ByteArray := ⟨k.toArray⟩
abbrev sv (k : K) : Value := .string (sB k)
theorem dgL_ok (s : K) : okK (dgL s) = true := by
  unfold dgL
  split
  · decide
  · rename_i h
    simp only [okK, Bool.and_eq_true, decide_eq_true_eq, List.length_map, List.length_take, List.all_eq_true, List.mem_map]
    have : s.length ≠ 0 := fun e => h (List.length_eq_zero_iff.1 e)
    refine ⟨⟨?_, by omega⟩, by omega⟩
    rintro x ⟨b, _, rfl⟩
    exact dg1_isD b
theorem info8 : (Tryz.prog.info? 5).map (fun i => (i.zero, i.size, i.bytes)) = some (some (.int .u8 0), 1, 1) := by kernel_rfl
set_option maxRecDepth 100000 in
set_option maxHeartbeats 1600000 in
theorem digits_any (s : ByteArray) (w : World) (hs : s.size ≤ maxLen) : Calls Tryz.prog 24 #[.string s] w fun e w' => e = .returned (sv (dgL s.data.toList)) ∧ Below w.heap.size w w' := by
  obtain ⟨i0, hi, hz0, hz1, hz2⟩ := info_parts info8
  have hl : s.data.toList.length = s.size := by rw [Array.length_toList]; rfl
  have et : s.toList = s.data.toList := ByteArray.toList_eq s
  obtain ⟨R, HR⟩ : ∃ R, Hid (dgL s.data.toList = R) := ⟨_, rfl⟩
  rw [HR.out]
  by_cases h0 : s.data.toList = []
  · have r4 : s.toList.isEmpty = true := by rw [et, h0]; rfl
    have HE : Hid (R = [48]) := by show _ = _; rw [← HR.out, dgL, if_pos h0]
    clear hl et h0
    go_enter Tryz.func24, Tryz.ntmps24
    go_wp2_with fail
    go_ret
    exact ⟨by rw [HE.out]; rfl, Below.refl _ _⟩
  · have r4 : s.toList.isEmpty = false := by
      rw [et]
      cases h : s.data.toList with
      | nil => exact absurd h h0
      | cons => rfl
    have HE : Hid (R = (s.data.toList.take 19).map dg1) := by show _ = _; rw [← HR.out, dgL, if_neg h0]
    have HN : Hid (s.data.toList.length = s.size) := hl
    clear hl et h0 hs
    go_enter Tryz.func24, Tryz.ntmps24
    go_wp2_with fail
    obtain ⟨v0, hv0⟩ : ∃ v0 : Value, v0 = .slice none 0 0 := ⟨_, rfl⟩
    have hown0 : w.ownsRow w.heap.size 5 1 v0 0 (bs []) := by rw [hv0]; exact World.ownsRow_nil _ _ _ _
    rw [← hv0]
    clear hv0
    go_loopw [3, 4] (fun v i wr => ∃ k : Nat, k ≤ s.size ∧ k ≤ 19 ∧ i = .int .i64 (k : Int) ∧ wr.ownsRow w.heap.size 5 1 v k (bs ((s.data.toList.take k).map dg1)) ∧ Below w.heap.size w wr) (fun _ i _ => 20 - (intOf i).toNat)
    case atStart => exact ⟨0, Nat.zero_le _, by omega, rfl, hown0, Below.refl _ _⟩
    case round =>
      obtain ⟨k, hk, hk2, rfl, hown, hb⟩ := hrel
      by_cases hlt : k < s.size ∧ k < 19
      · obtain ⟨hlt, hlt2⟩ := hlt
        have h1 : (0 : Int) ≤ (k : Int) := by omega
        have h2 : (k : Int) < (s.size : Int) := by omega
        have h3 : (k : Int) < 19 := by omega
        have h4 : (s[k].toNat : Int) < 256 := toNat_lt _
        have d1 : IntKind.i64.wrap ((s[k].toNat : Int) + 2) = ((s[k].toNat + 2 : Nat) : Int) := by rw [IntKind.wrap_i64]; omega
        have hbs := hb.size
        have HX : Hid (bs ((s.data.toList.take (k + 1)).map dg1) = bs ((s.data.toList.take k).map dg1) ++ [.int .u8 ((dg1 (s[k]'hlt)).toNat : Int)]) := by
          show _ = _
          rw [take_snoc s k hlt, List.map_append, bs_append]; rfl
        obtain ⟨q, hq⟩ : ∃ q : Nat, (dg1 (s[k]'hlt)).toNat = q := ⟨_, rfl⟩
        rw [hq] at HX
        rw [dg1_nat] at hq
        have HQ : Hid (48 + (s[k].toNat + 2) % 10 = q) := hq
        clear hq
        go_wp2_with (at_builtin; refine wpList_append_lies _ rfl _ _ _ rfl w.heap.size 5 i0 _ 1 1 Tryz.underlying123 hi hz0 hz1 hz2 rfl (by omega) _ k _ rfl (hown.alloc _) ⟨wr.heap.size, 0, none⟩ 1 1 _ rfl (by rfl) (World.news_of_block (heap_alloc_new wr _)) (by simp [Value.oneCell']) (by omega) (by unfold maxLen; omega) (by omega) (by first | omega | (simp <;> omega)) (wr.heap.size + 1) (by simp) ?_; intro gg cap w1 hown1 hgrow hat hlt1)
        refine ⟨⟨k + 1, by omega, by omega, by simp, owns_len hown1 rfl rfl ?_, below_app0 hb hbs hown hgrow⟩, by simp only [intOf]; omega⟩
        rw [HX.out, show (48 + ((s[k].toNat : Int) + 2) % 10) = (q : Int) by have := HQ.out; omega]
      · have HF : Hid ((s.data.toList.take k).map dg1 = R) := by
          show _ = _
          rw [HE.out]
          congr 1
          have := HN.out
          by_cases h : k = 19
          · rw [h]
          · rw [List.take_of_length_le (by omega), List.take_of_length_le (by omega)]
        rw [HF.out] at hown
        have hcv := run_str (P := Tryz.prog) (src := 123) (dst := 9) Tryz.underlying123 Tryz.underlying5 Tryz.underlying9 hown
        rcases (by omega : ¬ k < s.size ∨ (k < s.size ∧ ¬ k < 19)) with h | ⟨h, h'⟩
        · have q0 : ¬ (k : Int) < (s.size : Int) := by omega
          clear hlt
          go_wp2_with fail
          go_ret
          exact ⟨rfl, hb⟩
        · have q0 : (k : Int) < (s.size : Int) := by omega
          have q1 : ¬ (k : Int) < 19 := by omega
          clear hlt
          go_wp2_with fail
          go_ret
          exact ⟨rfl, hb⟩
theorem toL (k : K) : (sB k).toList = k := by rw [ByteArray.toList_eq]
theorem begins_any (a b : K) (w : World) (ha : a.length ≤ 9223372036854775807) (hb : b.length ≤ 9223372036854775807) : Calls Tryz.prog 28 #[sv a, sv b] w fun e w' => e = .returned (.bool (b.isPrefixOf a)) ∧ w' = w := by
  by_cases h : b.length ≤ a.length
  · have q0 : ((b.length : Nat) : Int) ≤ ((a.length : Nat) : Int) := by omega
    have e1 : (((sB a).extract 0 b.length).toList == b) = b.isPrefixOf a := by
      rw [ByteArray.toList_eq]
      simp only [ByteArray.data_extract, Array.toList_extract]
      simp only [List.extract_eq_take_drop, Nat.sub_zero, List.drop_zero]
      rw [Bool.eq_iff_iff]
      simp only [beq_iff_eq, List.isPrefixOf_iff_prefix]
      constructor
      · intro e; rw [← e]; exact List.take_prefix _ _
      · intro e; exact (List.prefix_iff_eq_take.1 e).symm
    obtain ⟨R, hR⟩ : ∃ R, b.isPrefixOf a = R := ⟨_, rfl⟩
    rw [hR] at e1 ⊢
    clear hR
    go_enter Tryz.func28, Tryz.ntmps28
    go_wp2_with fail
    go_ret
    exact ⟨rfl, rfl⟩
  · have q1 : ¬ ((b.length : Nat) : Int) ≤ ((a.length : Nat) : Int) := by omega
    have e1 : b.isPrefixOf a = false := by
      rw [Bool.eq_false_iff]
      intro e
      have := (List.isPrefixOf_iff_prefix.1 e).length_le
      omega
    rw [e1]
    go_enter Tryz.func28, Tryz.ntmps28
    go_wp2_with fail
    go_ret
    exact ⟨rfl, rfl⟩
end Go.Proofs.YtheeicjoblkfnaaGreatDoor.Rd
