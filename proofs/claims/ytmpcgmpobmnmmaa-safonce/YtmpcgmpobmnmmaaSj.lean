/- Next of one that is not ready; the laws' one; the first example's states. -/
import Derived.Test.YtmpcgmpobmnmmaaSi
namespace Go.Proofs.Ytmpcgmpobmnmmaa.Sj
set_option linter.unusedVariables false
set_option linter.unusedSimpArgs false
open Go.RowKit Go.Maps Lib0 Kb Xp Za Zc Zd Ze Sa Sb Sc Sd Se Sf Sg Sh Si
attribute [local go_sem] Oper.semAt_some
set_option maxRecDepth 100000 in
theorem next_no {w : World} {base g : Nat} {S : St} (h : Sq w base g S) : Calls Try.prog 22 #[.pointer (some ⟨g, 0, none⟩), .bool false] w fun e w' => e = .returned (.tuple #[.agg #[.string ⟨#[]⟩, .slice none 0 0], .bool false]) ∧ PQ w base g S w' := by
  have hbase : base ≤ w.heap.size := by obtain ⟨_, _, _, q⟩ := h; exact q.bas
  obtain ⟨y0, hy0⟩ : ∃ y0, w.alloc (.cells #[.string ⟨#[]⟩, .slice none 0 0] tG) = y0 := ⟨_, rfl⟩
  have b0 : Below w.heap.size w y0 := hy0 ▸ below_one w _
  have HB : Hid (y0.heap[w.heap.size]? = some (.cells #[.string ⟨#[]⟩, .slice none 0 0] tG (0, 0))) := hy0 ▸ h1_0 w _
  obtain ⟨x0, x1, x2, x3⟩ := box_facts HB.out
  have HP : Hid (PQ w base g S y0) := PQ.of h b0
  clear h b0
  go_enter Try.func22, Try.ntmps22
  go_wp2_with fail
  try rw [hy0]
  refine wp_loop_once ?_
  go_wp2_with fail
  exact end_none _ rfl rfl HB.out HP.out hbase
def dg (n : Nat) : ByteArray := ⟨#[UInt8.ofNat (48 + n % 10)]⟩
def oneA (n : Nat) : Av := ⟨0, (n : Int), ⟨#[48, 49, 50, 48]⟩, [(11, dg n)], ⟨#[48, 49, 50, 49]⟩, [(11, dg n)]⟩
theorem fo_one (s : ByteArray) (h : s.size ≤ 1000000) : Fo [((11 : Int), s)] := ⟨by simp, fun x hx => by rw [List.mem_singleton.1 hx]; simp, fun x hx => by rw [List.mem_singleton.1 hx]; exact h⟩
theorem dg_size (n : Nat) : (dg n).size = 1 := rfl
theorem conv1 (x : World) (z0 : Int) (d0 : Nat) (h0 : d0 < 256) (e0 : z0 = (d0 : Int)) :
    (convert 90 9 (.slice (some ⟨x.heap.size, 0, none⟩) 1 1)).run Try.prog (x.alloc (.cells #[.int .u8 z0] 5)) = .ok (.string ⟨#[UInt8.ofNat d0]⟩) (x.alloc (.cells #[.int .u8 z0] 5)) := by
  subst e0
  have h := h1_0 x (.cells #[.int .u8 (d0 : Int)] 5)
  refine run_convert_bytes_back _ 90 9 5 ⟨x.heap.size, 0, none⟩ 1 [UInt8.ofNat d0] Try.underlying90 Try.underlying5 Try.underlying9 (fun j hj => ?_)
  rw [show (⟨x.heap.size, 0, none⟩ : Addr).add j = ⟨x.heap.size, j, none⟩ by unfold Addr.add; split <;> simp_all]
  unfold World.cell?
  rw [h]
  match j, hj with
  | 0, _ => simp [Nat.mod_eq_of_lt h0]
theorem row_one {w : World} {g : Nat} {s : ByteArray} (h : w.heap[g]? = some (.cells #[.int .i64 11, .string s, .slice none 0 0] tF (0, 0))) : RowF w (.slice (some ⟨g, 0, none⟩) 1 1) [(11, s)] := by
  refine ⟨some ⟨g, 0, none⟩, 1, rfl, fun i hi => ?_⟩
  have hi0 : i = 0 := by simpa using hi
  subst hi0
  refine ⟨⟨g, 0, none⟩, rfl, ?_, ?_, ?_⟩ <;> simp [World.cell?, Addr.add, h]
set_option maxRecDepth 100000 in
theorem one_any (n : Nat) (hn : n ≤ 9) (w : World) : Calls Try.prog 27 #[.int .i64 (n : Int)] w fun e w' => ∃ v1 v2, e = .returned (av (oneA n) v1 v2) ∧ Rm w' (oneA n) v1 v2 ∧ Below w.heap.size w w' := by
  obtain ⟨y, hy⟩ : ∃ y, w.alloc (.cells #[.int .i64 0, .int .i64 0, .string ⟨#[]⟩, .slice none 0 0, .string ⟨#[]⟩, .slice none 0 0] tA) = y := ⟨_, rfl⟩
  have hcv := conv1 y (48 + (n : Int) % 10) (48 + n % 10) (by omega) (by push_cast; rfl)
  obtain ⟨z, hz⟩ : ∃ z, y.alloc (.cells #[.int .u8 (48 + (n : Int) % 10)] 5) = z := ⟨_, rfl⟩
  rw [hz] at hcv
  have b1 : Below w.heap.size w y := hy ▸ below_one _ _
  have x1 : y.heap[w.heap.size]? = some (.cells zA tA (0, 0)) := hy ▸ h1_0 _ _
  have b2 : Below y.heap.size y z := hz ▸ below_one _ _
  have x2 := kept b2 x1
  have hlt : w.heap.size < z.heap.size := (Array.getElem?_eq_some_iff.1 x2).1
  obtain ⟨s, hs⟩ : ∃ s, (⟨#[UInt8.ofNat (48 + n % 10)]⟩ : ByteArray) = s := ⟨_, rfl⟩
  have HS : Hid (dg n = s) := hs
  rw [hs] at hcv
  have HX : Hid (((z.alloc (.cells #[.int .i64 11, .string s, .slice none 0 0] tF)).alloc (.cells #[.int .i64 11, .string s, .slice none 0 0] tF)).heap[w.heap.size]? = some (.cells zA tA (0, 0))) := kept (below_two _ _ _) x2
  have HG0 : Hid (((z.alloc (.cells #[.int .i64 11, .string s, .slice none 0 0] tF)).alloc (.cells #[.int .i64 11, .string s, .slice none 0 0] tF)).heap[z.heap.size]? = some (.cells #[.int .i64 11, .string s, .slice none 0 0] tF (0, 0))) := h2_0 _ _ _
  have HG1 : Hid (((z.alloc (.cells #[.int .i64 11, .string s, .slice none 0 0] tF)).alloc (.cells #[.int .i64 11, .string s, .slice none 0 0] tF)).heap[z.heap.size + 1]? = some (.cells #[.int .i64 11, .string s, .slice none 0 0] tF (0, 0))) := h2_1 _ _ _
  have HB : Hid (Below w.heap.size w ((z.alloc (.cells #[.int .i64 11, .string s, .slice none 0 0] tF)).alloc (.cells #[.int .i64 11, .string s, .slice none 0 0] tF))) := keepB (keepB b1 b2) (below_two _ _ _)
  have HLT : Hid _ := hlt
  clear b1 x1 b2 x2 hs
  go_enter Try.func27, Try.ntmps27
  go_wp2_with (first | (refine wpList_store_row rfl tA _ _ rfl w.heap.size _ rfl rfl _ _ HX.out infoA rfl (by simp [Value.oneCell']) ?_) | fail)
  have hlt := HLT.out
  have hsz : s.size ≤ 1000000 := by rw [← HS.out, dg_size]; omega
  have hav : oneA n = ⟨0, (n : Int), ⟨#[48, 49, 50, 48]⟩, [(11, s)], ⟨#[48, 49, 50, 49]⟩, [(11, s)]⟩ := by rw [oneA, HS.out]
  rw [hav]
  refine bodyPost_ret (v := .agg #[.int .i64 0, .int .i64 (n : Int), .string ⟨#[48, 49, 50, 48]⟩, .slice (some ⟨z.heap.size, 0, none⟩) 1 1, .string ⟨#[48, 49, 50, 49]⟩, .slice (some ⟨z.heap.size + 1, 0, none⟩) 1 1]) (results_cell_row (fn := Try.f27) rfl _ _ w.heap.size tA _ _ _ rfl (setRow_at HX.out _) Try.underlying54 rfl infoA) rfl ⟨_, _, rfl, ⟨⟨by show (⟨#[48, 49, 50, 48]⟩ : ByteArray).size ≤ 1000000; decide, row_one ((setRow_ne (by omega) _).trans HG0.out), fo_one s hsz⟩, ⟨by show (⟨#[48, 49, 50, 49]⟩ : ByteArray).size ≤ 1000000; decide, row_one ((setRow_ne (by omega) _).trans HG1.out), fo_one s hsz⟩⟩, below_setRow HB.out (Nat.le_refl _) _⟩
end Go.Proofs.Ytmpcgmpobmnmmaa.Sj
