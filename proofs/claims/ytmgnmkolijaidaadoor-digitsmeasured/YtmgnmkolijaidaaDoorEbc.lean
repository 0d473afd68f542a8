/- The table of EBCDIC, and signs written by it. -/
import Derived.Test.YtmgnmkolijaidaaDoorChars
import Derived.Lib.LaidTab
namespace Go.Proofs.YtmgnmkolijaidaaDoor.Ebc
open Go.RowKit Lib0 Chars
/-- the table, from the blank on -/
def ebT : List Int := [64, 90, 127, 123, 91, 108, 80, 125, 77, 93, 92, 78, 107, 96, 75, 97, 240, 241, 242, 243, 244, 245, 246, 247, 248, 249, 122, 94, 76, 126, 110, 111, 124, 193, 194, 195, 196, 197, 198, 199, 200, 201, 209, 210, 211, 212, 213, 214, 215, 216, 217, 226, 227, 228, 229, 230, 231, 232, 233, 186, 224, 187, 176, 109, 121, 129, 130, 131, 132, 133, 134, 135, 136, 137, 145, 146, 147, 148, 149, 150, 151, 152, 153, 162, 163, 164, 165, 166, 167, 168, 169, 192, 79, 208, 161]
/-- the byte of a sign -/
def ebc (c : UInt8) : UInt8 := (ebT.getD (c.toNat - 32) 0).toNat.toUInt8
theorem ebT_bd : ∀ m : Fin 95, 0 ≤ ebT.getD m.val 0 ∧ ebT.getD m.val 0 < 256 := by decide
/-- the table's cells -/
def ebC : Array Value := (ebT.map fun z => Value.int .u8 z).toArray
/-- what the walks are told of the table -/
def Tab (w : World) : Prop := ∃ t fr, w.heap[0]? = some (.cells ebC t fr)
theorem Tab.of_var {w : World} {P : Program} {name : String} (hg : P.globalNamed name = some 0) (h : Lib.TabIs P w name .u8 ebT) : Tab w := by
  unfold Lib.TabIs World.var? at h
  rw [hg] at h
  simp only [Option.bind_some] at h
  split at h
  · rename_i cs t fr heq
    simp only [Option.some.injEq] at h
    subst h
    exact ⟨t, fr, heq⟩
  · cases h
theorem Tab.cell {w : World} (h : Tab w) (i : Nat) (hi : i < 95) : w.cell? ⟨0, i, none⟩ = some (.int .u8 (ebT.getD i 0)) := by
  obtain ⟨t, fr, hb⟩ := h
  rw [cell_of_row w _ i ebC t fr hb]
  have hl : i < ebT.length := hi
  simp [ebC, List.getD, hl]
theorem Tab.sign {w : World} (h : Tab w) (c : UInt8) (h1 : 32 ≤ c.toNat) (h2 : c.toNat ≤ 126) : w.cell? ⟨0, c.toNat - 32, none⟩ = some (.int .u8 ((ebc c).toNat : Int)) := by
  rw [h.cell _ (by omega)]
  have hb := ebT_bd ⟨c.toNat - 32, by omega⟩
  simp only [ebc, UInt8.toNat_ofNat', Nat.toUInt8]
  congr 2
  simp only at hb
  omega
theorem Tab.below {w w' : World} {B : Nat} (h : Tab w) (hb : Below B w w') (h0 : 0 < B) : Tab w' := by
  obtain ⟨t, fr, hc⟩ := h
  exact ⟨t, fr, (hb.block _ h0).trans hc⟩
theorem Tab.lt {w : World} (h : Tab w) : 0 < w.heap.size := World.block_lt_of_cell? w _ (h.cell 0 (by decide))
theorem Tab.next {w w' : World} (h : Tab w) (hb : Below w.heap.size w w') : Tab w' := h.below hb h.lt
theorem sgn_bd (c : UInt8) (h : sgn c = true) : 32 ≤ c.toNat ∧ c.toNat ≤ 126 := of_decide_eq_true h
theorem all_at (p : UInt8 → Bool) (s : ByteArray) (ha : s.data.toList.all p = true) (k : Nat) (h : k < s.size) : p s[k] = true :=
  List.all_eq_true.1 ha s[k] (by show s.data[k] ∈ s.data.toList; simp)
theorem info : (Tryd.prog.info? 5).map (fun i => (i.zero, i.size, i.bytes)) = some (some (.int .u8 0), 1, 1) := by kernel_rfl
/-- a row that is filled from its head on -/
def part (f : UInt8 → UInt8) (l : List UInt8) (k : Nat) : List UInt8 := (l.take k).map f ++ List.replicate (l.length - k) 0
theorem part_zero (f : UInt8 → UInt8) (l : List UInt8) : part f l 0 = List.replicate l.length 0 := by simp [part]
theorem part_all (f : UInt8 → UInt8) (l : List UInt8) (k : Nat) (h : l.length ≤ k) : part f l k = l.map f := by simp [part, List.take_of_length_le h, Nat.sub_eq_zero_of_le h]
theorem part_length (f : UInt8 → UInt8) (l : List UInt8) (k : Nat) (h : k ≤ l.length) : (part f l k).length = l.length := by simp [part]; omega
theorem part_set (f : UInt8 → UInt8) (l : List UInt8) (k : Nat) (h : k < l.length) : (part f l k).set k (f l[k]) = part f l (k + 1) := by
  have e1 : (l.take k).length = k := List.length_take_of_le (by omega)
  have e2 : List.replicate (l.length - k) (0 : UInt8) = 0 :: List.replicate (l.length - (k + 1)) 0 := by
    rw [show l.length - k = (l.length - (k + 1)) + 1 by omega, List.replicate_succ]
  unfold part
  rw [e2, List.take_succ_eq_append_getElem h, List.map_append, List.set_append_right _ _ (by simp; omega)]
  simp [Nat.min_eq_left (Nat.le_of_lt h)]
theorem bs_set (l : List UInt8) (k : Nat) (b : UInt8) : (bs l).set k (.int .u8 (b.toNat : Int)) = bs (l.set k b) := by simp [bs, List.map_set]
theorem made_bs (n : Nat) : (madeCells #[Value.int .u8 0] n).toList = bs (List.replicate n 0) := by
  simp only [bs, madeCells, Array.toList_map, Array.toList_range, List.map_replicate]
  rw [List.eq_replicate_iff]
  simp [Nat.mod_one]
set_option maxRecDepth 100000 in
set_option maxHeartbeats 800000 in
theorem toEBCDIC_any (s : ByteArray) (w : World) (hs : s.size ≤ 4194304) (ha : s.data.toList.all sgn = true) (hT : Tab w) :
    Calls Tryd.prog 21 #[.string s] w fun e w' => e = .returned (.string ⟨(s.data.toList.map ebc).toArray⟩) ∧ Below w.heap.size w w' := by
  obtain ⟨i0, hi, hz0, hz1, hz2⟩ := info_parts info
  have HA : Hid (s.data.toList.all sgn = true) := ha
  have HT : Hid (Tab w) := hT
  have HL : Hid (s.data.toList.length = s.size) := by show _ = _; simp
  clear ha hT
  go_enter Tryd.func21, Tryd.ntmps21
  go_wp2_with (at_make; refine wpList_make_full _ rfl _ _ 43 rfl w.heap.size 5 i0 _ 1 Tryd.underlying43 hi hz0 hz1 _ _ _ _ s.size rfl rfl (by omega) (by omega) (by rw [hz2]; omega) (by unfold maxLen; omega) (Nat.le_refl _) ?_)
  intro w0 hown0 hgrow0
  have hb0 := (Below.refl w.heap.size w).grown hgrow0 (Nat.le_refl _) (fun k h => by cases h)
  rw [made_bs] at hown0
  go_wp2
  go_loopw [10] (fun i wr => ∃ k : Nat, k ≤ s.size ∧ i = .int .i64 k ∧ wr.ownsRow w.heap.size 5 1 (.slice (some ⟨w.heap.size, 0, none⟩) s.size s.size) s.size (bs (part ebc s.data.toList k)) ∧ Below w.heap.size w wr) (fun i _ => s.size - (intOf i).toNat)
  case atStart => exact ⟨0, Nat.zero_le _, rfl, by rw [part_zero, HL.out]; exact hown0, hb0⟩
  case round =>
    obtain ⟨k, hk, rfl, hown, hb⟩ := hrel
    by_cases hlt : k < s.size
    · have hsg := sgn_bd _ (all_at sgn s HA.out k hlt)
      have h1 : (32 : Int) ≤ (s[k].toNat : Int) := by omega
      have h2 : (s[k].toNat : Int) ≤ 126 := by omega
      have hcell := (HT.out.next hb).sign s[k] hsg.1 hsg.2
      have hce : wr.cell? ⟨w.heap.size, k, none⟩ = some (.int .u8 (((part ebc s.data.toList k)[k]'(by rw [part_length _ _ _ (by rw [HL.out]; omega), HL.out]; exact hlt)).toNat : Int)) := by
        rw [hown.cellAt k (by omega), bs_get _ _ (by rw [part_length _ _ _ (by rw [HL.out]; omega), HL.out]; exact hlt)]
      have hfr := hown.frozenAt k
      have hst := hown.stored k (.int .u8 ((ebc s[k]).toNat : Int))
      clear hsg
      go_wp2
      go_roundw
      case rel => exact ⟨k + 1, by omega, by go_num, owns_len hst.1 rfl rfl (by rw [bs_set]; congr 1; exact part_set ebc s.data.toList k (by rw [HL.out]; exact hlt)), hb.grown hst.2 hb.size (fun g h => by cases h; exact Nat.le_refl _)⟩
      case measure => simp [intOf]; omega
    · have hown' : wr.ownsRow w.heap.size 5 1 (.slice (some ⟨w.heap.size, 0, none⟩) s.size s.size) s.size (bs (s.data.toList.map ebc)) := by rw [part_all _ _ _ (by rw [HL.out]; omega)] at hown; exact hown
      have hcv := run_str (P := Tryd.prog) (src := 43) (dst := 9) Tryd.underlying43 Tryd.underlying5 Tryd.underlying9 hown'
      go_wp2
      go_ret
      exact ⟨rfl, hb⟩
end Go.Proofs.YtmgnmkolijaidaaDoor.Ebc
