/- The document's half, as it is written. -/
import Derived.Test.YtiepchghlopfnaaBx
import Derived.Test.YtiepchghlopfnaaWt
namespace Go.Proofs.Ytiepchghlopfnaa.Rh
set_option linter.unusedVariables false
open Go.RowKit Pla Bm Br Bv Bw Bx Hf Wr Wt
theorem character_any (enc : Int) (he : enc = 1 ∨ enc = 4) (n : Nat) (hn : n < 16) (w : World) :
    Calls Try.prog 59 #[.int .i64 enc, .int .i64 (n : Int)] w fun e w' => e = .returned (.int .u8 ((chr enc n : Nat) : Int)) ∧ w' = w := by
  rcases he with rfl | rfl
  · have e0 : ∀ n, n < 16 → ∀ w, (Instr.index 9 (.string ⟨#[48, 49, 50, 51, 52, 53, 54, 55, 56, 57, 65, 66, 67, 68, 69, 70]⟩) (.int .i64 ((n : Nat) : Int))).run Try.prog w = .ok (.int .u8 ((chr 1 n : Nat) : Int)) w := fun n hn w => by
      rw [run_index_string w _ _ _ _ Try.underlying9, dif_pos ⟨by omega, by show _ < ((16 : Nat) : Int); omega⟩]
      have : ∀ n, (h : n < 16) → ((ByteArray.mk #[48, 49, 50, 51, 52, 53, 54, 55, 56, 57, 65, 66, 67, 68, 69, 70])[n]'h).toNat = chr 1 n := by decide
      rw [← this n hn]
      rfl
    have e1 := e0 n hn
    clear e0
    generalize chr 1 n = c at *
    go_enter Try.func59, Try.ntmps59
    go_wp2
    go_ret
    exact ⟨rfl, rfl⟩
  · by_cases h : n < 10
    · have q : (n : Int) < 10 := by omega
      have q0 : (0 : Int) ≤ (n : Int) := by omega
      rw [show chr 4 n = 240 + n by simp [chr, h]]
      go_enter Try.func59, Try.ntmps59
      go_wp2
      go_ret
      exact ⟨by simp, rfl⟩
    · have q : ¬ (n : Int) < 10 := by omega
      have q1 : (n : Int) < 16 := by omega
      have q0 : (0 : Int) ≤ (n : Int) := by omega
      rw [show chr 4 n = 183 + n by simp [chr, h]]
      go_enter Try.func59, Try.ntmps59
      go_wp2
      go_ret
      exact ⟨by congr 2; simp; omega, rfl⟩
/-- a piece's byte -/
def chE (enc : Int) (n : Nat) : Nat := if enc = 5 then n else chr enc n
/-- a half of a row, as it is written: so many pieces -/
def pcs (enc : Int) (f : Nat → Bool) (b step : Nat) : Nat → List UInt8
  | 0 => []
  | j + 1 => pcs enc f b step j ++ [UInt8.ofNat (chE enc (halfN f (b + step * j) step))]
theorem pcs_length (enc : Int) (f : Nat → Bool) (b step : Nat) : ∀ j, (pcs enc f b step j).length = j
  | 0 => rfl
  | j + 1 => by rw [pcs, List.length_append, pcs_length enc f b step j]; rfl
theorem chE_lt (enc : Int) (n step : Nat) (h : (enc = 5 ∧ step = 8) ∨ step = 4) (h5 : step = 4 → enc ≠ 5) (hn : n < 2 ^ step) : chE enc n < 256 := by
  unfold chE
  rcases h with ⟨rfl, rfl⟩ | rfl
  · rw [if_pos rfl]; exact hn
  · rw [if_neg (h5 rfl)]; exact chr_lt enc n hn
theorem one_string {P : Program} {w : World} {src dst e : TypeId} {c : Nat} {t : TypeId} (hc : c < 256) (hs : P.underlying src = some (.slice e)) (he : P.underlying e = some (.int .u8)) (hd : P.underlying dst = some .string) :
    (convert src dst (.slice (some ⟨w.heap.size, 0, none⟩) 1 1)).run P (w.alloc (.cells #[.int .u8 (c : Int)] t)) = .ok (.string ⟨#[UInt8.ofNat c]⟩) (w.alloc (.cells #[.int .u8 (c : Int)] t)) :=
  conv_by (n := 1) (v := fun _ => c) (fun _ _ => hc) hs he hd (h1_0 w _)
theorem De_kept1 {x : World} {g : Nat} {o : Obj} (h : x.heap[g]? = some o) (a : Obj) : (x.alloc a).heap[g]? = some o := (Below.heap_alloc _ a _ (Array.getElem?_eq_some_iff.1 h).1).trans h
set_option maxRecDepth 100000 in
set_option maxHeartbeats 1600000 in
theorem half_8_1 (f : Nat → Bool) (w : World) :
    Calls Try.prog 53 #[.agg (rowC f), .int .i64 5, .int .i64 1] w fun e w' => e = .returned (.string ⟨(pcs 5 f 0 8 8).toArray⟩) ∧ Below w.heap.size w w' := by
  go_enter Try.func53, Try.ntmps53
  go_wp2_with fail
  go_loopw [7, 9] (fun a k wr => ∃ (j : Nat) (A : ByteArray), j ≤ 8 ∧ k = .int .i64 ((0 + 8 * j + 1 : Nat) : Int) ∧ a = .string A ∧ Hid (ByteArray.mk (pcs 5 f 0 8 j).toArray = A) ∧ Hid (wr.heap[w.heap.size]? = some (.cells (rowC f) 33 (0, 0))) ∧ Below w.heap.size w wr) (fun _ k _ => 66 - (intOf k).toNat)
  case atStart => exact ⟨0, ByteArray.mk #[], by omega, rfl, rfl, rfl, h1_0 w _, below_one w _⟩
  case round =>
    obtain ⟨j, A, hj, rfl, rfl, HA, G0, hb⟩ := hrel
    by_cases hj2 : j < 8
    · have HK : Hid (∀ t, t < 8 → wr.cell? ⟨w.heap.size, 0 + 8 * j + 1 + t, none⟩ = some (.bool (f (0 + 8 * j + (t + 1))))) := fun t ht => by
        rw [row_cell G0.out _ (by omega)]; congr 3; omega
      have HP : Hid (pcs 5 f 0 8 (j + 1) = pcs 5 f 0 8 j ++ [UInt8.ofNat (chE 5 (halfN f (0 + 8 * j) 8))]) := rfl
      have zA : A.size ≤ 8 := by
        rw [← HA.out]
        show (pcs 5 f 0 8 j).toArray.size ≤ 8
        rw [List.size_toArray, pcs_length]; omega
      have nl : ¬ (9223372036854775807 < A.size + 1) := by omega
      have HJ : Hid (0 + 8 * (j + 1) + 1 = 0 + 8 * j + 1 + 8) := by show _ = _; omega
      have hK1 : (((0 + 8 * j : Nat) : Int)) + 1 ≤ 57 := by omega
      obtain ⟨K0, hK0⟩ : ∃ K0, 0 + 8 * j = K0 := ⟨_, rfl⟩
      have HK0 : Hid (0 + 8 * j = K0) := hK0
      rw [hK0] at HK HP HJ hK1 ⊢
      clear hK0
      have hK2 : (0 : Int) ≤ (K0 : Int) := by omega
      clear hj
      have hq : ((K0 + 1 : Nat) : Int) < 1 + 64 := by omega
      go_wp2_with fail
      obtain ⟨wo, hwo⟩ : ∃ wo : World, wo = wr := ⟨wr, rfl⟩
      rw [← hwo] at G0 HK hb ⊢
      clear hwo
      go_loopw [10, 11] (fun n i wi => ∃ t : Nat, t ≤ 8 ∧ i = .int .i64 ((K0 + 1 + t : Nat) : Int) ∧ n = .int .i64 (halfN f K0 t : Int) ∧ wi = wo) (fun _ i _ => K0 + 10 - (intOf i).toNat)
      case atStart => exact ⟨0, by omega, by simp, rfl, rfl⟩
      case round =>
        obtain ⟨t, ht, rfl, rfl, rfl⟩ := hrel
        have hlt := halfN_lt f K0 t
        have hpw := Nat.pow_le_pow_right (n := 2) (by decide) ht
        by_cases ht2 : t < 8
        · have k1 := HK.out t ht2
          have HE : Hid (halfN f K0 (t + 1) = 2 * halfN f K0 t + (f (K0 + (t + 1))).toNat) := rfl
          have i1 : (halfN f K0 t : Int) ≤ 255 := by omega
          have qt : ((K0 + 1 + t : Nat) : Int) < ((K0 + 1 : Nat) : Int) + 8 := by omega
          have qx : ((K0 + 1 + t : Nat) : Int) < 129 := by omega
          generalize halfN f K0 t = x at *
          generalize f (K0 + (t + 1)) = bb at *
          clear hlt hpw ht
          cases bb
          all_goals
            go_wp2_with fail
            refine ⟨⟨t + 1, by omega, by simp; omega, by rw [HE.out]; simp, trivial⟩, by simp only [intOf]; omega⟩
        · obtain rfl : t = 8 := by omega
          have cl : chE 5 (halfN f K0 8) < 256 := chE_lt _ _ 8 (by omega) (by omega) hlt
          have os := fun (w : World) => one_string (P := Try.prog) (w := w) (src := 83) (dst := 9) (e := 5) (t := 5) cl Try.underlying83 Try.underlying5 Try.underlying9
          have u1 : IntKind.u8.wrap (halfN f K0 8 : Int) = (halfN f K0 8 : Int) := by
            have : IntKind.u8.wrap (halfN f K0 8 : Int) = (halfN f K0 8 : Int) % 256 := by simp [IntKind.wrap, IntKind.bits, IntKind.signed]
            rw [this]; omega
          have i1 : (halfN f K0 8 : Int) ≤ 255 := by omega
          have hx5 : chE 5 (halfN f K0 8) = halfN f K0 8 := rfl
          rw [hx5] at os HP
          generalize halfN f K0 8 = x at *
          have nl2 : ¬ (9223372036854775807 < A.size + (ByteArray.mk #[UInt8.ofNat (x)]).size) := by
            rw [show (ByteArray.mk #[UInt8.ofNat (x)]).size = 1 from rfl]; omega
          obtain ⟨D, hD⟩ : ∃ D, ByteArray.mk #[UInt8.ofNat (x)] = D := ⟨_, rfl⟩
          rw [hD] at nl2 os
          have HD : Hid (ByteArray.mk #[UInt8.ofNat (x)] = D) := hD
          clear hD nl hlt hpw ht ht2
          go_wp2_with fail
          refine ⟨⟨j + 1, A ++ D, by omega, ?_, rfl, ?_, De_kept1 G0.out _, hb.alloc hb.size _⟩, ?_⟩
          · congr 1; have := HK0.out; omega
          · show _ = _
            rw [HP.out, ← HA.out, ← HD.out]
            exact (ByteArray.mk_append_mk _ _).symm
          · simp only [intOf]; have := HK0.out; omega
    · obtain rfl : j = 8 := by omega
      go_wp2_with fail
      go_ret
      exact ⟨by rw [HA.out]; rfl, hb⟩
set_option maxRecDepth 100000 in
set_option maxHeartbeats 1600000 in
theorem half_8_65 (f : Nat → Bool) (w : World) :
    Calls Try.prog 53 #[.agg (rowC f), .int .i64 5, .int .i64 65] w fun e w' => e = .returned (.string ⟨(pcs 5 f 64 8 8).toArray⟩) ∧ Below w.heap.size w w' := by
  go_enter Try.func53, Try.ntmps53
  go_wp2_with fail
  go_loopw [7, 9] (fun a k wr => ∃ (j : Nat) (A : ByteArray), j ≤ 8 ∧ k = .int .i64 ((64 + 8 * j + 1 : Nat) : Int) ∧ a = .string A ∧ Hid (ByteArray.mk (pcs 5 f 64 8 j).toArray = A) ∧ Hid (wr.heap[w.heap.size]? = some (.cells (rowC f) 33 (0, 0))) ∧ Below w.heap.size w wr) (fun _ k _ => 130 - (intOf k).toNat)
  case atStart => exact ⟨0, ByteArray.mk #[], by omega, rfl, rfl, rfl, h1_0 w _, below_one w _⟩
  case round =>
    obtain ⟨j, A, hj, rfl, rfl, HA, G0, hb⟩ := hrel
    by_cases hj2 : j < 8
    · have HK : Hid (∀ t, t < 8 → wr.cell? ⟨w.heap.size, 64 + 8 * j + 1 + t, none⟩ = some (.bool (f (64 + 8 * j + (t + 1))))) := fun t ht => by
        rw [row_cell G0.out _ (by omega)]; congr 3; omega
      have HP : Hid (pcs 5 f 64 8 (j + 1) = pcs 5 f 64 8 j ++ [UInt8.ofNat (chE 5 (halfN f (64 + 8 * j) 8))]) := rfl
      have zA : A.size ≤ 8 := by
        rw [← HA.out]
        show (pcs 5 f 64 8 j).toArray.size ≤ 8
        rw [List.size_toArray, pcs_length]; omega
      have nl : ¬ (9223372036854775807 < A.size + 1) := by omega
      have HJ : Hid (64 + 8 * (j + 1) + 1 = 64 + 8 * j + 1 + 8) := by show _ = _; omega
      have hK1 : (((64 + 8 * j : Nat) : Int)) + 1 ≤ 121 := by omega
      obtain ⟨K0, hK0⟩ : ∃ K0, 64 + 8 * j = K0 := ⟨_, rfl⟩
      have HK0 : Hid (64 + 8 * j = K0) := hK0
      rw [hK0] at HK HP HJ hK1 ⊢
      clear hK0
      have hK2 : (0 : Int) ≤ (K0 : Int) := by omega
      clear hj
      have hq : ((K0 + 1 : Nat) : Int) < 65 + 64 := by omega
      go_wp2_with fail
      obtain ⟨wo, hwo⟩ : ∃ wo : World, wo = wr := ⟨wr, rfl⟩
      rw [← hwo] at G0 HK hb ⊢
      clear hwo
      go_loopw [10, 11] (fun n i wi => ∃ t : Nat, t ≤ 8 ∧ i = .int .i64 ((K0 + 1 + t : Nat) : Int) ∧ n = .int .i64 (halfN f K0 t : Int) ∧ wi = wo) (fun _ i _ => K0 + 10 - (intOf i).toNat)
      case atStart => exact ⟨0, by omega, by simp, rfl, rfl⟩
      case round =>
        obtain ⟨t, ht, rfl, rfl, rfl⟩ := hrel
        have hlt := halfN_lt f K0 t
        have hpw := Nat.pow_le_pow_right (n := 2) (by decide) ht
        by_cases ht2 : t < 8
        · have k1 := HK.out t ht2
          have HE : Hid (halfN f K0 (t + 1) = 2 * halfN f K0 t + (f (K0 + (t + 1))).toNat) := rfl
          have i1 : (halfN f K0 t : Int) ≤ 255 := by omega
          have qt : ((K0 + 1 + t : Nat) : Int) < ((K0 + 1 : Nat) : Int) + 8 := by omega
          have qx : ((K0 + 1 + t : Nat) : Int) < 129 := by omega
          generalize halfN f K0 t = x at *
          generalize f (K0 + (t + 1)) = bb at *
          clear hlt hpw ht
          cases bb
          all_goals
            go_wp2_with fail
            refine ⟨⟨t + 1, by omega, by simp; omega, by rw [HE.out]; simp, trivial⟩, by simp only [intOf]; omega⟩
        · obtain rfl : t = 8 := by omega
          have cl : chE 5 (halfN f K0 8) < 256 := chE_lt _ _ 8 (by omega) (by omega) hlt
          have os := fun (w : World) => one_string (P := Try.prog) (w := w) (src := 83) (dst := 9) (e := 5) (t := 5) cl Try.underlying83 Try.underlying5 Try.underlying9
          have u1 : IntKind.u8.wrap (halfN f K0 8 : Int) = (halfN f K0 8 : Int) := by
            have : IntKind.u8.wrap (halfN f K0 8 : Int) = (halfN f K0 8 : Int) % 256 := by simp [IntKind.wrap, IntKind.bits, IntKind.signed]
            rw [this]; omega
          have i1 : (halfN f K0 8 : Int) ≤ 255 := by omega
          have hx5 : chE 5 (halfN f K0 8) = halfN f K0 8 := rfl
          rw [hx5] at os HP
          generalize halfN f K0 8 = x at *
          have nl2 : ¬ (9223372036854775807 < A.size + (ByteArray.mk #[UInt8.ofNat (x)]).size) := by
            rw [show (ByteArray.mk #[UInt8.ofNat (x)]).size = 1 from rfl]; omega
          obtain ⟨D, hD⟩ : ∃ D, ByteArray.mk #[UInt8.ofNat (x)] = D := ⟨_, rfl⟩
          rw [hD] at nl2 os
          have HD : Hid (ByteArray.mk #[UInt8.ofNat (x)] = D) := hD
          clear hD nl hlt hpw ht ht2
          go_wp2_with fail
          refine ⟨⟨j + 1, A ++ D, by omega, ?_, rfl, ?_, De_kept1 G0.out _, hb.alloc hb.size _⟩, ?_⟩
          · congr 1; have := HK0.out; omega
          · show _ = _
            rw [HP.out, ← HA.out, ← HD.out]
            exact (ByteArray.mk_append_mk _ _).symm
          · simp only [intOf]; have := HK0.out; omega
    · obtain rfl : j = 8 := by omega
      go_wp2_with fail
      go_ret
      exact ⟨by rw [HA.out]; rfl, hb⟩
set_option maxRecDepth 100000 in
set_option maxHeartbeats 1600000 in
theorem half_4_1 (enc : Int) (he : enc = 1 ∨ enc = 4) (f : Nat → Bool) (w : World) :
    Calls Try.prog 53 #[.agg (rowC f), .int .i64 enc, .int .i64 1] w fun e w' => e = .returned (.string ⟨(pcs enc f 0 4 16).toArray⟩) ∧ Below w.heap.size w w' := by
  have q5 : (enc == 5) = false := beq_eq_false_iff_ne.mpr (by omega)
  have h5 : enc ≠ 5 := by omega
  have pch := fun n hn w => character_any enc he n hn w
  have CH : Hid (∀ n : Nat, n < 16 → ∀ w, Calls Try.prog 59 #[.int .i64 enc, .int .i64 (n : Int)] w fun e w' => e = .returned (.int .u8 ((chr enc n : Nat) : Int)) ∧ w' = w) := pch
  clear pch he
  go_enter Try.func53, Try.ntmps53
  go_wp2_with fail
  go_loopw [7, 9] (fun a k wr => ∃ (j : Nat) (A : ByteArray), j ≤ 16 ∧ k = .int .i64 ((0 + 4 * j + 1 : Nat) : Int) ∧ a = .string A ∧ Hid (ByteArray.mk (pcs enc f 0 4 j).toArray = A) ∧ Hid (wr.heap[w.heap.size]? = some (.cells (rowC f) 33 (0, 0))) ∧ Below w.heap.size w wr) (fun _ k _ => 66 - (intOf k).toNat)
  case atStart => exact ⟨0, ByteArray.mk #[], by omega, rfl, rfl, rfl, h1_0 w _, below_one w _⟩
  case round =>
    obtain ⟨j, A, hj, rfl, rfl, HA, G0, hb⟩ := hrel
    by_cases hj2 : j < 16
    · have HK : Hid (∀ t, t < 4 → wr.cell? ⟨w.heap.size, 0 + 4 * j + 1 + t, none⟩ = some (.bool (f (0 + 4 * j + (t + 1))))) := fun t ht => by
        rw [row_cell G0.out _ (by omega)]; congr 3; omega
      have HP : Hid (pcs enc f 0 4 (j + 1) = pcs enc f 0 4 j ++ [UInt8.ofNat (chE enc (halfN f (0 + 4 * j) 4))]) := rfl
      have zA : A.size ≤ 16 := by
        rw [← HA.out]
        show (pcs enc f 0 4 j).toArray.size ≤ 16
        rw [List.size_toArray, pcs_length]; omega
      have nl : ¬ (9223372036854775807 < A.size + 1) := by omega
      have HJ : Hid (0 + 4 * (j + 1) + 1 = 0 + 4 * j + 1 + 4) := by show _ = _; omega
      have hK1 : (((0 + 4 * j : Nat) : Int)) + 1 ≤ 61 := by omega
      obtain ⟨K0, hK0⟩ : ∃ K0, 0 + 4 * j = K0 := ⟨_, rfl⟩
      have HK0 : Hid (0 + 4 * j = K0) := hK0
      rw [hK0] at HK HP HJ hK1 ⊢
      clear hK0
      have hK2 : (0 : Int) ≤ (K0 : Int) := by omega
      clear hj
      have hq : ((K0 + 1 : Nat) : Int) < 1 + 64 := by omega
      go_wp2_with fail
      obtain ⟨wo, hwo⟩ : ∃ wo : World, wo = wr := ⟨wr, rfl⟩
      rw [← hwo] at G0 HK hb ⊢
      clear hwo
      go_loopw [10, 11] (fun n i wi => ∃ t : Nat, t ≤ 4 ∧ i = .int .i64 ((K0 + 1 + t : Nat) : Int) ∧ n = .int .i64 (halfN f K0 t : Int) ∧ wi = wo) (fun _ i _ => K0 + 6 - (intOf i).toNat)
      case atStart => exact ⟨0, by omega, by simp, rfl, rfl⟩
      case round =>
        obtain ⟨t, ht, rfl, rfl, rfl⟩ := hrel
        have hlt := halfN_lt f K0 t
        have hpw := Nat.pow_le_pow_right (n := 2) (by decide) ht
        by_cases ht2 : t < 4
        · have k1 := HK.out t ht2
          have HE : Hid (halfN f K0 (t + 1) = 2 * halfN f K0 t + (f (K0 + (t + 1))).toNat) := rfl
          have i1 : (halfN f K0 t : Int) ≤ 255 := by omega
          have qt : ((K0 + 1 + t : Nat) : Int) < ((K0 + 1 : Nat) : Int) + 4 := by omega
          have qx : ((K0 + 1 + t : Nat) : Int) < 129 := by omega
          generalize halfN f K0 t = x at *
          generalize f (K0 + (t + 1)) = bb at *
          clear hlt hpw ht
          cases bb
          all_goals
            go_wp2_with fail
            refine ⟨⟨t + 1, by omega, by simp; omega, by rw [HE.out]; simp, trivial⟩, by simp only [intOf]; omega⟩
        · obtain rfl : t = 4 := by omega
          have cl : chE enc (halfN f K0 4) < 256 := chE_lt _ _ 4 (by omega) (by omega) hlt
          have os := fun (w : World) => one_string (P := Try.prog) (w := w) (src := 83) (dst := 9) (e := 5) (t := 5) cl Try.underlying83 Try.underlying5 Try.underlying9
          have u1 : IntKind.u8.wrap (halfN f K0 4 : Int) = (halfN f K0 4 : Int) := by
            have : IntKind.u8.wrap (halfN f K0 4 : Int) = (halfN f K0 4 : Int) % 256 := by simp [IntKind.wrap, IntKind.bits, IntKind.signed]
            rw [this]; omega
          have i1 : (halfN f K0 4 : Int) ≤ 255 := by omega
          have hx5 : chE enc (halfN f K0 4) = chr enc (halfN f K0 4) := by unfold chE; rw [if_neg h5]
          have pc := CH.out (halfN f K0 4) hlt
          rw [hx5] at os HP
          generalize halfN f K0 4 = x at *
          have nl2 : ¬ (9223372036854775807 < A.size + (ByteArray.mk #[UInt8.ofNat (chr enc x)]).size) := by
            rw [show (ByteArray.mk #[UInt8.ofNat (chr enc x)]).size = 1 from rfl]; omega
          obtain ⟨D, hD⟩ : ∃ D, ByteArray.mk #[UInt8.ofNat (chr enc x)] = D := ⟨_, rfl⟩
          rw [hD] at nl2 os
          have HD : Hid (ByteArray.mk #[UInt8.ofNat (chr enc x)] = D) := hD
          clear hD nl hlt hpw ht ht2
          go_wp2_with (go_at_call 59; refine (pc _).mono ?_; rintro e y ⟨rfl, rfl⟩)
          refine ⟨⟨j + 1, A ++ D, by omega, ?_, rfl, ?_, De_kept1 G0.out _, hb.alloc hb.size _⟩, ?_⟩
          · congr 1; have := HK0.out; omega
          · show _ = _
            rw [HP.out, ← HA.out, ← HD.out]
            exact (ByteArray.mk_append_mk _ _).symm
          · simp only [intOf]; have := HK0.out; omega
    · obtain rfl : j = 16 := by omega
      go_wp2_with fail
      go_ret
      exact ⟨by rw [HA.out]; rfl, hb⟩
set_option maxRecDepth 100000 in
set_option maxHeartbeats 1600000 in
theorem half_4_65 (enc : Int) (he : enc = 1 ∨ enc = 4) (f : Nat → Bool) (w : World) :
    Calls Try.prog 53 #[.agg (rowC f), .int .i64 enc, .int .i64 65] w fun e w' => e = .returned (.string ⟨(pcs enc f 64 4 16).toArray⟩) ∧ Below w.heap.size w w' := by
  have q5 : (enc == 5) = false := beq_eq_false_iff_ne.mpr (by omega)
  have h5 : enc ≠ 5 := by omega
  have pch := fun n hn w => character_any enc he n hn w
  have CH : Hid (∀ n : Nat, n < 16 → ∀ w, Calls Try.prog 59 #[.int .i64 enc, .int .i64 (n : Int)] w fun e w' => e = .returned (.int .u8 ((chr enc n : Nat) : Int)) ∧ w' = w) := pch
  clear pch he
  go_enter Try.func53, Try.ntmps53
  go_wp2_with fail
  go_loopw [7, 9] (fun a k wr => ∃ (j : Nat) (A : ByteArray), j ≤ 16 ∧ k = .int .i64 ((64 + 4 * j + 1 : Nat) : Int) ∧ a = .string A ∧ Hid (ByteArray.mk (pcs enc f 64 4 j).toArray = A) ∧ Hid (wr.heap[w.heap.size]? = some (.cells (rowC f) 33 (0, 0))) ∧ Below w.heap.size w wr) (fun _ k _ => 130 - (intOf k).toNat)
  case atStart => exact ⟨0, ByteArray.mk #[], by omega, rfl, rfl, rfl, h1_0 w _, below_one w _⟩
  case round =>
    obtain ⟨j, A, hj, rfl, rfl, HA, G0, hb⟩ := hrel
    by_cases hj2 : j < 16
    · have HK : Hid (∀ t, t < 4 → wr.cell? ⟨w.heap.size, 64 + 4 * j + 1 + t, none⟩ = some (.bool (f (64 + 4 * j + (t + 1))))) := fun t ht => by
        rw [row_cell G0.out _ (by omega)]; congr 3; omega
      have HP : Hid (pcs enc f 64 4 (j + 1) = pcs enc f 64 4 j ++ [UInt8.ofNat (chE enc (halfN f (64 + 4 * j) 4))]) := rfl
      have zA : A.size ≤ 16 := by
        rw [← HA.out]
        show (pcs enc f 64 4 j).toArray.size ≤ 16
        rw [List.size_toArray, pcs_length]; omega
      have nl : ¬ (9223372036854775807 < A.size + 1) := by omega
      have HJ : Hid (64 + 4 * (j + 1) + 1 = 64 + 4 * j + 1 + 4) := by show _ = _; omega
      have hK1 : (((64 + 4 * j : Nat) : Int)) + 1 ≤ 125 := by omega
      obtain ⟨K0, hK0⟩ : ∃ K0, 64 + 4 * j = K0 := ⟨_, rfl⟩
      have HK0 : Hid (64 + 4 * j = K0) := hK0
      rw [hK0] at HK HP HJ hK1 ⊢
      clear hK0
      have hK2 : (0 : Int) ≤ (K0 : Int) := by omega
      clear hj
      have hq : ((K0 + 1 : Nat) : Int) < 65 + 64 := by omega
      go_wp2_with fail
      obtain ⟨wo, hwo⟩ : ∃ wo : World, wo = wr := ⟨wr, rfl⟩
      rw [← hwo] at G0 HK hb ⊢
      clear hwo
      go_loopw [10, 11] (fun n i wi => ∃ t : Nat, t ≤ 4 ∧ i = .int .i64 ((K0 + 1 + t : Nat) : Int) ∧ n = .int .i64 (halfN f K0 t : Int) ∧ wi = wo) (fun _ i _ => K0 + 6 - (intOf i).toNat)
      case atStart => exact ⟨0, by omega, by simp, rfl, rfl⟩
      case round =>
        obtain ⟨t, ht, rfl, rfl, rfl⟩ := hrel
        have hlt := halfN_lt f K0 t
        have hpw := Nat.pow_le_pow_right (n := 2) (by decide) ht
        by_cases ht2 : t < 4
        · have k1 := HK.out t ht2
          have HE : Hid (halfN f K0 (t + 1) = 2 * halfN f K0 t + (f (K0 + (t + 1))).toNat) := rfl
          have i1 : (halfN f K0 t : Int) ≤ 255 := by omega
          have qt : ((K0 + 1 + t : Nat) : Int) < ((K0 + 1 : Nat) : Int) + 4 := by omega
          have qx : ((K0 + 1 + t : Nat) : Int) < 129 := by omega
          generalize halfN f K0 t = x at *
          generalize f (K0 + (t + 1)) = bb at *
          clear hlt hpw ht
          cases bb
          all_goals
            go_wp2_with fail
            refine ⟨⟨t + 1, by omega, by simp; omega, by rw [HE.out]; simp, trivial⟩, by simp only [intOf]; omega⟩
        · obtain rfl : t = 4 := by omega
          have cl : chE enc (halfN f K0 4) < 256 := chE_lt _ _ 4 (by omega) (by omega) hlt
          have os := fun (w : World) => one_string (P := Try.prog) (w := w) (src := 83) (dst := 9) (e := 5) (t := 5) cl Try.underlying83 Try.underlying5 Try.underlying9
          have u1 : IntKind.u8.wrap (halfN f K0 4 : Int) = (halfN f K0 4 : Int) := by
            have : IntKind.u8.wrap (halfN f K0 4 : Int) = (halfN f K0 4 : Int) % 256 := by simp [IntKind.wrap, IntKind.bits, IntKind.signed]
            rw [this]; omega
          have i1 : (halfN f K0 4 : Int) ≤ 255 := by omega
          have hx5 : chE enc (halfN f K0 4) = chr enc (halfN f K0 4) := by unfold chE; rw [if_neg h5]
          have pc := CH.out (halfN f K0 4) hlt
          rw [hx5] at os HP
          generalize halfN f K0 4 = x at *
          have nl2 : ¬ (9223372036854775807 < A.size + (ByteArray.mk #[UInt8.ofNat (chr enc x)]).size) := by
            rw [show (ByteArray.mk #[UInt8.ofNat (chr enc x)]).size = 1 from rfl]; omega
          obtain ⟨D, hD⟩ : ∃ D, ByteArray.mk #[UInt8.ofNat (chr enc x)] = D := ⟨_, rfl⟩
          rw [hD] at nl2 os
          have HD : Hid (ByteArray.mk #[UInt8.ofNat (chr enc x)] = D) := hD
          clear hD nl hlt hpw ht ht2
          go_wp2_with (go_at_call 59; refine (pc _).mono ?_; rintro e y ⟨rfl, rfl⟩)
          refine ⟨⟨j + 1, A ++ D, by omega, ?_, rfl, ?_, De_kept1 G0.out _, hb.alloc hb.size _⟩, ?_⟩
          · congr 1; have := HK0.out; omega
          · show _ = _
            rw [HP.out, ← HA.out, ← HD.out]
            exact (ByteArray.mk_append_mk _ _).symm
          · simp only [intOf]; have := HK0.out; omega
    · obtain rfl : j = 16 := by omega
      go_wp2_with fail
      go_ret
      exact ⟨by rw [HA.out]; rfl, hb⟩
end Go.Proofs.Ytiepchghlopfnaa.Rh
