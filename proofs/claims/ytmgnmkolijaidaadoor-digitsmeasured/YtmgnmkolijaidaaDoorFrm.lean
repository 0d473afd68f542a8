/- Bytes read by the table of EBCDIC, turned round. -/
import Derived.Test.YtmgnmkolijaidaaDoorJoin
namespace Go.Proofs.YtmgnmkolijaidaaDoor.Frm
open Go.RowKit Lib0 Chars Ebc
/-- the table turned round, as far as k -/
def invL : Nat → List UInt8
  | 0 => List.replicate 256 0
  | k + 1 => (invL k).set (ebT.getD k 0).toNat (32 + k).toUInt8
theorem invL_length : ∀ k, (invL k).length = 256
  | 0 => by rw [invL, List.length_replicate]
  | k + 1 => by rw [invL, List.length_set, invL_length k]
/-- the sign that a byte stands for, or 0 -/
def dec (b : UInt8) : UInt8 := (invL 95).getD b.toNat 0
theorem run_tab (k : Nat) (hk : k < 95) (w : World) : (Instr.index 61 (.agg ebC) (.int .i64 (k : Int))).run Tryd.prog w = .ok (.int .u8 (ebT.getD k 0)) w := by
  have hl : k < ebT.length := hk
  have h0 : ebC[k]? = some (.int .u8 (ebT.getD k 0)) := by simp [ebC, List.getD, hl]
  simp [Instr.index, asIntOf, run_underlying Tryd.underlying61, hk, part, h0]
theorem z256 : Tryd.zeroCells65 = (bs (invL 0)).toArray := by kernel_rfl
theorem inv_cell {w : World} {g k : Nat} {T : TypeId} (hg : w.heap[g]? = some (.cells (bs (invL k)).toArray T (0, 0))) (j : Nat) (hj : j < 256) : w.cell? ⟨g, j, none⟩ = some (.int .u8 (((invL k).getD j 0).toNat : Int)) := by
  have hl : j < (invL k).length := by rw [invL_length]; exact hj
  rw [cell_of_row w g j _ T (0, 0) hg]
  rw [List.getElem?_toArray, bs_get _ _ hl, List.getD, List.getElem?_eq_getElem hl]; rfl
theorem inv_next {w : World} {g k : Nat} {T : TypeId} (hk : k < 95) (hg : w.heap[g]? = some (.cells (bs (invL k)).toArray T (0, 0))) :
    (w.setCell ⟨g, (ebT.getD k 0).toNat, none⟩ (.int .u8 (32 + (k : Int)))).heap[g]? = some (.cells (bs (invL (k + 1))).toArray T (0, 0)) := by
  rw [heap_setCell_same w g _ _ T _ hg]
  have e : (32 + (k : Int)) = (((32 + k).toUInt8.toNat : Nat) : Int) := by
    simp only [UInt8.toNat_ofNat', Nat.toUInt8]; omega
  rw [e, List.setIfInBounds_toArray, bs_set]
  rfl
set_option maxRecDepth 100000 in
set_option maxHeartbeats 1600000 in
theorem from_any (s : ByteArray) (w : World) (hs : s.size ≤ 4194304) (hT : Tab w) :
    Calls Tryd.prog 25 #[.string s] w fun e w' => e = .returned (.string ⟨(s.data.toList.map dec).toArray⟩) ∧ Below w.heap.size w w' := by
  obtain ⟨i0, hi, hz0, hz1, hz2⟩ := info_parts info
  have HL : Hid (s.data.toList.length = s.size) := by show _ = _; simp
  have h0 := hT.lt
  obtain ⟨t, fr, hc0⟩ := hT
  have hg1 : (w.alloc (Obj.cells Tryd.zeroCells65 65)).heap[0]? = some (.cells ebC t fr) := (Below.heap_alloc w _ _ h0).trans hc0
  have hg2 : (w.alloc (Obj.cells Tryd.zeroCells65 65)).heap[w.heap.size]? = some (.cells (bs (invL 0)).toArray 65 (0, 0)) := by rw [← z256]; exact heap_alloc_new w _
  have HG2 : Hid _ := hg2
  have HC0 : Hid _ := hc0
  clear hg2 hc0
  go_enter Tryd.func25, Tryd.ntmps25
  go_wp2_with (refine wpList_load_row rfl 61 _ rfl 0 rfl t _ fr _ hg1 Tryd.underlying61 rfl (by kernel_rfl) ?_)
  clear hg1
  go_loopw [9] (fun i wr => ∃ k : Nat, k ≤ 95 ∧ i = .int .i64 k ∧ wr.heap[w.heap.size]? = some (.cells (bs (invL k)).toArray 65 (0, 0)) ∧ Below w.heap.size w wr) (fun i _ => 95 - (intOf i).toNat)
  case atStart => exact ⟨0, Nat.zero_le _, rfl, HG2.out, (Below.refl _ _).alloc (Nat.le_refl _) _⟩
  case round =>
    obtain ⟨k, hk, rfl, hrow, hb⟩ := hrel
    have HR : Hid (wr.heap[w.heap.size]? = some (.cells (bs (invL k)).toArray 65 (0, 0))) := hrow
    clear hrow
    by_cases hlt : k < 95
    · have hrun := run_tab k hlt
      have hbd := ebT_bd ⟨k, hlt⟩
      simp only at hbd
      have hcell := inv_cell HR.out (ebT.getD k 0).toNat (by omega)
      have hfr : wr.frozen? ⟨w.heap.size, (ebT.getD k 0).toNat, none⟩ = false := frozen_of_row wr _ _ _ _ HR.out
      have hnx := inv_next hlt HR.out
      have HN : Hid _ := hnx
      clear hnx
      generalize hzz : ebT.getD k 0 = z at *
      clear hzz
      have b1 := hbd.1
      have b2 := hbd.2
      clear hbd
      go_wp2
      go_roundw
      case rel => exact ⟨k + 1, by omega, by go_num, HN.out, hb.setCell (Nat.le_refl _) _⟩
      case measure => simp [intOf]; omega
    · have hk95 : k = 95 := by omega
      subst hk95
      clear hlt hk
      obtain ⟨x1, hxw⟩ : ∃ x1 : World, x1 = wr := ⟨wr, rfl⟩
      subst hxw
      have hgl : w.heap.size < x1.heap.size := World.block_lt_of_cell? x1 ⟨w.heap.size, 0, none⟩ (inv_cell HR.out 0 (by omega))
      go_wp2_with (at_make; refine wpList_make_full _ rfl _ _ 43 rfl x1.heap.size 5 i0 _ 1 Tryd.underlying43 hi hz0 hz1 _ _ _ _ s.size rfl rfl (by omega) (by omega) (by rw [hz2]; omega) (by unfold maxLen; omega) (Nat.le_refl _) ?_)
      intro w0 hown0 hgrow0
      have hb0 := (Below.refl x1.heap.size x1).grown hgrow0 (Nat.le_refl _) (fun k h => by cases h)
      rw [made_bs] at hown0
      go_wp2
      go_loopw [24] (fun i wr => ∃ k : Nat, k ≤ s.size ∧ i = .int .i64 k ∧ wr.ownsRow x1.heap.size 5 1 (.slice (some ⟨x1.heap.size, 0, none⟩) s.size s.size) s.size (bs (Ebc.part dec s.data.toList k)) ∧ Below x1.heap.size x1 wr) (fun i _ => s.size - (intOf i).toNat)
      case atStart => exact ⟨0, Nat.zero_le _, rfl, by rw [part_zero, HL.out]; exact hown0, hb0⟩
      case round =>
        obtain ⟨k, hk, rfl, hown, hbb⟩ := hrel
        by_cases hlt : k < s.size
        · have h1 : (s[k].toNat : Int) < 256 := toNat_lt _
          have hcell : wr.cell? ⟨w.heap.size, s[k].toNat, none⟩ = some (.int .u8 ((dec s[k]).toNat : Int)) := (hbb.cell (p := ⟨w.heap.size, s[k].toNat, none⟩) hgl).trans (inv_cell HR.out _ (by omega))
          have hce : wr.cell? ⟨x1.heap.size, k, none⟩ = some (.int .u8 (((Ebc.part dec s.data.toList k)[k]'(by rw [part_length _ _ _ (by rw [HL.out]; omega), HL.out]; exact hlt)).toNat : Int)) := by
            rw [hown.cellAt k (by omega), bs_get _ _ (by rw [part_length _ _ _ (by rw [HL.out]; omega), HL.out]; exact hlt)]
          have hfr := hown.frozenAt k
          have hst := hown.stored k (.int .u8 ((dec s[k]).toNat : Int))
          go_wp2
          go_roundw
          case rel => exact ⟨k + 1, by omega, by go_num, owns_len hst.1 rfl rfl (by rw [bs_set]; congr 1; exact part_set dec s.data.toList k (by rw [HL.out]; exact hlt)), hbb.grown hst.2 hbb.size (fun g h => by cases h; exact Nat.le_refl _)⟩
          case measure => simp [intOf]; omega
        · have hown' : wr.ownsRow x1.heap.size 5 1 (.slice (some ⟨x1.heap.size, 0, none⟩) s.size s.size) s.size (bs (s.data.toList.map dec)) := by rw [part_all _ _ _ (by rw [HL.out]; omega)] at hown; exact hown
          have hcv := run_str (P := Tryd.prog) (src := 43) (dst := 9) Tryd.underlying43 Tryd.underlying5 Tryd.underlying9 hown'
          go_wp2
          go_ret
          exact ⟨rfl, hb.trans (hbb.mono hb.size)⟩
end Go.Proofs.YtmgnmkolijaidaaDoor.Frm
