/- pairs: the program's. -/
import Derived.Test.YtpocbaaogkabeaaDoorDz
namespace Go.Proofs.YtpocbaaogkabeaaDoor.Pa
set_option linter.unusedVariables false
set_option linter.unusedSimpArgs false
open Go.RowKit Lib0 Kb Ca Ld De Oe Hx
/-- a digit's sign -/
def dc (n : Int) : UInt8 := (48 + n).toNat.toUInt8
/-- numbers in two digits each -/
def prL (z : List Int) : List UInt8 := z.flatMap fun n => [dc (n / 10), dc (n % 10)]
theorem prL_snoc (z : List Int) (n : Int) : prL (z ++ [n]) = prL z ++ [dc (n / 10), dc (n % 10)] := by simp [prL]
theorem dc_nat {n : Int} (h0 : 0 ≤ n) (h1 : n < 10) : ((dc n).toNat : Int) = 48 + n := by
  unfold dc
  simp only [Nat.toUInt8, UInt8.toNat_ofNat']
  omega
theorem info : (Tryd.prog.info? 5).map (fun i => (i.zero, i.size, i.bytes)) = some (some (.int .u8 0), 1, 1) := by kernel_rfl
attribute [local go_sem ↓] Go.wp_at_zero Go.wp_at_succ
set_option maxRecDepth 100000 in
set_option maxHeartbeats 800000 in
theorem pairs_any (z : List Int) (hz : ∀ (i : Nat) (hi : i < z.length), 0 ≤ z[i] ∧ z[i] < 100) (hl : z.length ≤ 5) (g : Nat) (w : World) (hg : g < w.heap.size) (hc : ∀ (i : Nat) (hi : i < z.length), w.cell? ⟨g, i, none⟩ = some (.int .i64 z[i])) :
    Calls Tryd.prog 37 #[.slice (some ⟨g, 0, none⟩) z.length z.length] w fun e w' => e = .returned (.string ⟨(prL z).toArray⟩) ∧ Below w.heap.size w w' := by
  obtain ⟨i0, hi, hz0, hz1, hz2⟩ := info_parts info
  obtain ⟨N, hN⟩ : ∃ N, z.length = N := ⟨_, rfl⟩
  rw [hN]
  go_enter Tryd.func37, Tryd.ntmps37
  go_wp2
  go_loopw [3, 8] (fun v i wr => ∃ k : Nat, k ≤ N ∧ i = .int .i64 k ∧ wr.ownsRow w.heap.size 5 1 v (2 * k) (bs (prL (z.take k))) ∧ Below w.heap.size w wr) (fun _ i _ => N - (intOf i).toNat)
  case atStart => exact ⟨0, Nat.zero_le _, rfl, World.ownsRow_nil _ _ _ _, Below.refl _ _⟩
  case round =>
    obtain ⟨k, hk, rfl, hown, hb⟩ := hrel
    by_cases hlt : k < N
    · have h1 : (0 : Int) ≤ (k : Int) := by omega
      have h2 : (k : Int) < (N : Int) := by omega
      have hlt' : k < z.length := by omega
      obtain ⟨n, hn⟩ : ∃ n, z[k] = n := ⟨_, rfl⟩
      have hnb := hz k hlt'
      have hcell := keepC hb (hc k hlt') hg
      rw [hn] at hnb hcell
      obtain ⟨n0, n1⟩ := hnb
      obtain ⟨A, hA⟩ : ∃ A, n / 10 = A := ⟨_, rfl⟩
      obtain ⟨B, hB⟩ : ∃ A, n % 10 = A := ⟨_, rfl⟩
      have d1 : 0 ≤ A := by omega
      have d2 : A < 10 := by omega
      have d3 : 0 ≤ B := by omega
      have d4 : B < 10 := by omega
      have d5 : IntKind.u8.wrap (48 + A) = 48 + A := wrap_u8 _ (by omega) (by omega)
      have d6 : IntKind.u8.wrap (48 + B) = 48 + B := wrap_u8 _ (by omega) (by omega)
      have hbs := hb.size
      have hT : Hid (z.take (k + 1) = z.take k ++ [n]) := by
        show _ = _
        rw [List.take_succ_eq_append_getElem hlt', hn]
      have hAB : Hid (n / 10 = A ∧ n % 10 = B) := ⟨hA, hB⟩
      clear hn hlt'
      go_wp2_with (at_builtin; refine wpList_append_lies _ rfl _ _ _ rfl w.heap.size 5 i0 _ 1 1 Tryd.underlying48 hi hz0 hz1 hz2 rfl (by omega) _ (2 * k) _ rfl (hown.alloc _) ⟨wr.heap.size, 0, none⟩ 2 2 _ rfl (by rfl) (World.news_of_block (heap_alloc_new wr _)) (by simp [Value.oneCell']) (by omega) (by unfold maxLen; omega) (by omega) (by first | omega | (simp <;> omega)) (wr.heap.size + 1) (by simp) ?_; intro ga ca wa own1 g1 hat hlt1)
      go_round
      case rel =>
        refine ⟨k + 1, by omega, by go_num, owns_len own1 rfl (by omega) ?_, below_app0 hb hbs hown g1⟩
        rw [hT.out, prL_snoc, bs_append, hAB.out.1, hAB.out.2]
        simp [bs, dc_nat d1 d2, dc_nat d3 d4]
      case measure => simp [intOf]; omega
    · obtain rfl : k = N := by omega
      have hcv := run_str (P := Tryd.prog) (src := 48) (dst := 9) Tryd.underlying48 Tryd.underlying5 Tryd.underlying9 hown
      go_wp2
      go_ret
      exact ⟨ret_str (by rw [List.take_of_length_le (by omega)]), hb⟩
end Go.Proofs.YtpocbaaogkabeaaDoor.Pa
