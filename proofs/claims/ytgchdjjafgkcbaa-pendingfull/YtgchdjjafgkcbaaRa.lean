/- The laws' own requests. -/
import Derived.Test.YtgchdjjafgkcbaaPy
import Derived.Test.YtgchdjjafgkcbaaEqk
namespace Go.Proofs.Ytgchdjjafgkcbaa.Ra
set_option linter.unusedVariables false
set_option linter.unusedSimpArgs false
open Go.RowKit Go.Maps Lib0 Kb Xp Za Ze Ih Fh Hh Pa Pb Pc Pe Pf Pg
attribute [local go_sem] Oper.semAt_some
def dec (n : Nat) : List UInt8 := if h : n = 0 then [] else dec (n / 10) ++ [UInt8.ofNat (48 + n % 10)]
termination_by n
decreasing_by omega
def ks (n : Nat) : ByteArray := ⟨(dec n).toArray⟩
def req (n : Nat) : Rq := ⟨(n : Int) % 3, 0, ks n, ⟨#[115]⟩, ⟨#[]⟩, (n : Int) % 3, (n : Int) % 4, (n : Int), ⟨#[48, 50, 48, 48]⟩, [(11, ks n)], ⟨#[48, 49, 48, 48]⟩, []⟩
theorem conv1 (x : World) (z0 : Int) (d0 : Nat) (h0 : d0 < 256) (e0 : z0 = (d0 : Int)) :
    (convert 79 9 (.slice (some ⟨x.heap.size, 0, none⟩) 1 1)).run Try.prog (x.alloc (.cells #[.int .u8 z0] 5)) = .ok (.string ⟨#[UInt8.ofNat d0]⟩) (x.alloc (.cells #[.int .u8 z0] 5)) := by
  subst e0
  have h := h1_0 x (.cells #[.int .u8 (d0 : Int)] 5)
  refine run_convert_bytes_back _ 79 9 5 ⟨x.heap.size, 0, none⟩ 1 [UInt8.ofNat d0] Try.underlying79 Try.underlying5 Try.underlying9 (fun j hj => ?_)
  rw [show (⟨x.heap.size, 0, none⟩ : Addr).add j = ⟨x.heap.size, j, none⟩ by unfold Addr.add; split <;> simp_all]
  unfold World.cell?
  rw [h]
  match j, hj with
  | 0, _ => simp [Nat.mod_eq_of_lt h0]
theorem dec_step (i : Nat) (h : 0 < i) : dec i = dec (i / 10) ++ [UInt8.ofNat (48 + i % 10)] := by
  rw [dec, dif_neg (by omega)]
theorem dec_len : ∀ n : Nat, (dec n).length ≤ n := by
  intro n
  induction n using Nat.strongRecOn with
  | _ n ih =>
    by_cases h : n = 0
    · subst h; rw [dec, dif_pos rfl]; simp
    · rw [dec, dif_neg h, List.length_append, List.length_singleton]
      have := ih (n / 10) (by omega)
      omega
set_option maxRecDepth 100000 in
set_option maxHeartbeats 1600000 in
theorem request_any (n : Nat) (hn : n ≤ 1000000) (w : World) : Calls Try.prog 14 #[.int .i64 (n : Int)] w fun e w' => ∃ v1, e = .returned (pv (req n) v1 (.slice none 0 0)) ∧ w'.ownsRow w.heap.size tF 3 v1 1 (fc [(11, ks n)]) ∧ Below w.heap.size w w' := by
  obtain ⟨y, hy⟩ : ∃ y, w.alloc (.cells #[.int .i64 0, .int .i64 0, .string ⟨#[]⟩, .string ⟨#[]⟩, .string ⟨#[]⟩, .int .i64 0, .int .i64 0, .int .i64 0, .string ⟨#[]⟩, .slice none 0 0, .string ⟨#[]⟩, .slice none 0 0] tP) = y := ⟨_, rfl⟩
  have HY : Hid (Below w.heap.size w y) := hy ▸ below_one _ _
  have HZ : Hid (y.heap[w.heap.size]? = some (.cells zP tP (0, 0))) := hy ▸ h1_0 _ _
  go_enter Try.func14, Try.ntmps14
  go_wp2_with fail
  try rw [hy]
  clear hy
  have HI : Hid (Below w.heap.size w y ∧ y.heap[w.heap.size]? = some (.cells zP tP (0, 0))) := ⟨HY.out, HZ.out⟩
  go_loopw [3, 4] (fun kv iv wr => ∃ (i : Nat) (k : ByteArray), iv = .int .i64 (i : Int) ∧ kv = .string k ∧ i ≤ n ∧ Hid (dec i ++ k.data.toList = dec n) ∧ Hid (Below w.heap.size w wr ∧ wr.heap[w.heap.size]? = some (.cells zP tP (0, 0)))) (fun _ iv _ => (intOf iv).toNat)
  case atStart => exact ⟨n, ⟨#[]⟩, rfl, rfl, Nat.le_refl _, by show _ = _; simp, HI.out⟩
  case round =>
    obtain ⟨i, k, rfl, rfl, hi, HK, HS⟩ := hrel
    by_cases h0 : 0 < i
    · have q0 : (0 : Int) < (i : Int) := by omega
      have hks : k.size ≤ 1000000 := by
        have h1 := congrArg List.length HK.out
        have h2 := dec_len n
        rw [List.length_append] at h1
        have h3 : k.data.toList.length = k.size := by rw [Array.length_toList]; rfl
        omega
      have hcv := conv1 wr (48 + (i : Int) % 10) (48 + i % 10) (by omega) (by push_cast; rfl)
      have HB2 : Hid (Below w.heap.size w (wr.alloc (.cells #[.int .u8 (48 + (i : Int) % 10)] 5)) ∧ (wr.alloc (.cells #[.int .u8 (48 + (i : Int) % 10)] 5)).heap[w.heap.size]? = some (.cells zP tP (0, 0))) := ⟨keepB HS.out.1 (below_one _ _), kept (below_one _ _) HS.out.2⟩
      go_wp2_with fail
      have hdv : ((i : Int) / 10) = ((i / 10 : Nat) : Int) := by omega
      refine ⟨⟨i / 10, _, by rw [hdv], rfl, by omega, ?_, HB2.out⟩, ?_⟩
      · show _ = _
        rw [← HK.out, dec_step i h0, ByteArray.data_append]
        simp
      · simp only [intOf]
        omega
    · obtain rfl : i = 0 := by omega
      have q0 : ¬ (0 : Int) < ((0 : Nat) : Int) := by omega
      have hk : k = ks n := by
        have h1 := HK.out
        rw [dec, dif_pos rfl, List.nil_append] at h1
        unfold ks
        rw [← h1]
      subst hk
      have HX : Hid ((wr.alloc (.cells #[.int .i64 11, .string (ks n), .slice none 0 0] tF)).heap[w.heap.size]? = some (.cells zP tP (0, 0))) := kept (below_one _ _) HS.out.2
      have HG : Hid ((wr.alloc (.cells #[.int .i64 11, .string (ks n), .slice none 0 0] tF)).heap[wr.heap.size]? = some (.cells #[.int .i64 11, .string (ks n), .slice none 0 0] tF (0, 0))) := h1_0 _ _
      have HLT : Hid (w.heap.size < wr.heap.size) := (Array.getElem?_eq_some_iff.1 HS.out.2).1
      clear HK hi h0
      go_wp2_with (first | (refine wpList_store_row rfl tP _ _ rfl w.heap.size _ rfl rfl _ _ HX.out infoP rfl (by simp [Value.oneCell']) ?_) | fail)
      have hlt := HLT.out
      refine bodyPost_ret (v := .agg #[.int .i64 ((n : Int) % 3), .int .i64 0, .string (ks n), .string ⟨#[115]⟩, .string ⟨#[]⟩, .int .i64 ((n : Int) % 3), .int .i64 ((n : Int) % 4), .int .i64 (n : Int), .string ⟨#[48, 50, 48, 48]⟩, .slice (some ⟨wr.heap.size, 0, none⟩) 1 1, .string ⟨#[48, 49, 48, 48]⟩, .slice none 0 0]) (results_cell_row (fn := Try.f14) rfl _ _ w.heap.size tP _ _ _ rfl (setRow_at HX.out #[.int .i64 ((n : Int) % 3), .int .i64 0, .string (ks n), .string ⟨#[115]⟩, .string ⟨#[]⟩, .int .i64 ((n : Int) % 3), .int .i64 ((n : Int) % 4), .int .i64 (n : Int), .string ⟨#[48, 50, 48, 48]⟩, .slice (some ⟨wr.heap.size, 0, none⟩) 1 1, .string ⟨#[48, 49, 48, 48]⟩, .slice none 0 0]) Try.underlying48 rfl infoP) rfl ⟨.slice (some ⟨wr.heap.size, 0, none⟩) 1 1, rfl, ?_, below_setRow (keepB HS.out.1 (below_one _ _)) (Nat.le_refl _) _⟩
      refine ⟨by simp [fc], .inr ⟨wr.heap.size, 1, _, rfl, by omega, (setRow_ne (by omega) _).trans HG.out, Nat.le_refl _, by unfold maxLen; omega, rfl, rfl⟩⟩
end Go.Proofs.Ytgchdjjafgkcbaa.Ra
