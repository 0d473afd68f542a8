/- The document's hex and Print. -/
import Derived.Test.YtgidjfhlooggkaaRn
import Derived.Test.YtgidjfhlooggkaaAl
import Derived.Test.YtgidjfhlooggkaaPn
import Derived.Test.YtgidjfhlooggkaaWn
import Derived.Deep.RegionHeld3
namespace Go.Proofs.Ytgidjfhlooggkaa.Pd
set_option linter.unusedVariables false
set_option linter.unusedSimpArgs false
open Go.RowKit Kb Ga Gb Gc Gd Nt Gf Gg Nb Rn Wk
def sgs : ByteArray := ⟨#[48, 49, 50, 51, 52, 53, 54, 55, 56, 57, 65, 66, 67, 68, 69, 70]⟩
theorem sgs_size : sgs.size = 16 := by decide
theorem sgs_at : ∀ k : Fin 16, (sgs.data.getD k.val 0) = Lib0.hx k.val := by decide
theorem cells2B (a b : UInt8) : Lib.byteCells [a, b] = [.int .u8 (a.toNat : Int), .int .u8 (b.toNat : Int)] := rfl
theorem cells_app (a b : List UInt8) : Lib.byteCells (a ++ b) = Lib.byteCells a ++ Lib.byteCells b := by simp [Lib.byteCells]
set_option maxRecDepth 100000 in
set_option maxHeartbeats 3200000 in
theorem hex_doc (s : ByteArray) (w : World) (hs : s.size ≤ 1048576) :
    Calls Try.prog 53 #[.string s] w fun e w' => e = .returned (.string ⟨(Lib0.hexL s.data.toList).toArray⟩) ∧ Below w.heap.size w w' := by
  obtain ⟨ia, hia, hza0, hza1, hza2⟩ := info_parts infoB
  go_enter Try.func53, Try.ntmps53
  go_wp2
  go_loopw [3, 4] (fun vo vi wr => ∃ i : Nat, i ≤ s.size ∧ vi = .int .i64 (i : Int) ∧ wr.ownsRow w.heap.size 5 1 vo (2 * i) (Lib.byteCells (Lib0.hexL (s.data.toList.take i))) ∧ Below w.heap.size w wr) (fun _ vi _ => s.size - (intOf vi).toNat)
  case atStart => exact ⟨0, Nat.zero_le _, rfl, by simp only [List.take_zero, Lib0.hexL, List.flatMap_nil]; exact World.ownsRow_nil _ _ _ _, Below.refl _ _⟩
  case round =>
    obtain ⟨i, hi, rfl, ho, hwr⟩ := hrel
    rename World => wr
    obtain ⟨uo, uc, rfl⟩ := Al.formN ho
    have HO : Hid (World.ownsRow wr w.heap.size 5 1 (.slice uo (2 * i) uc) (2 * i) (Lib.byteCells (Lib0.hexL (s.data.toList.take i)))) := ho
    have hsw := hwr.size
    clear ho
    by_cases hlt : i < s.size
    · have hlt' : (i : Int) < (s.size : Int) := by omega
      obtain ⟨c, Hc⟩ : ∃ c : UInt8, Hid (s[i] = c) := ⟨s[i], rfl⟩
      have hcc := Hc.out
      have hT := Bd.hexL_take s i hlt
      rw [hcc] at hT
      have HT : Hid (Lib0.hexL (s.data.toList.take (i + 1)) = Lib0.hexL (s.data.toList.take i) ++ [Lib0.hx (c.toNat / 16), Lib0.hx (c.toNat % 16)]) := hT
      have hcl := c.toNat_lt
      obtain ⟨A, HA, hA⟩ : ∃ A : Nat, Hid (c.toNat / 16 = A) ∧ A < 16 := ⟨_, rfl, by omega⟩
      obtain ⟨B, HB, hB⟩ : ∃ B : Nat, Hid (c.toNat % 16 = B) ∧ B < 16 := ⟨_, rfl, by omega⟩
      rw [HA.out, HB.out] at HT
      obtain ⟨C, hC, hC2⟩ : ∃ C : Nat, (s[i].toNat : Int) = (C : Int) ∧ C = c.toNat := ⟨c.toNat, by rw [hcc], rfl⟩
      have a0 := HA.out
      have b0 := HB.out
      have e1 : (C : Int).tdiv 16 = (A : Int) := by rw [Int.tdiv_eq_ediv_of_nonneg (by omega)]; omega
      have e2 : (C : Int).tmod 16 = (B : Int) := by rw [Int.tmod_eq_emod_of_nonneg (by omega)]; omega
      have f1 : (A : Int) < 16 := by omega
      have f2 : (B : Int) < 16 := by omega
      have f3 : (C : Int) ≤ 255 := by omega
      have w1 : IntKind.i64.wrap (A : Int) = (A : Int) := by rw [IntKind.wrap_i64]; omega
      have w2 : IntKind.i64.wrap (B : Int) = (B : Int) := by rw [IntKind.wrap_i64]; omega
      have w3 : IntKind.i64.wrap (C : Int) = (C : Int) := by rw [IntKind.wrap_i64]; omega
      have hx1 := Lib0.hx_get A hA
      have hx2 := Lib0.hx_get B hB
      clear a0 b0 hC2 hcc hT hcl
      go_wp2_with fail
      go_region_held3 (fun _ => True) (trivial)
        ((refine step_append_lies _ (by rfl) _ _ _ (by rfl) w.heap.size 5 ia _ 1 1 Try.underlying81 hia hza0 hza1 hza2 rfl (by omega) _ (2 * i) _ (by rfl) ((HO.out.alloc _).drew) ⟨wr.heap.size, 0, none⟩ 2 2 _ (by rfl) (by rfl) (World.news_of_block (heap_alloc_new wr _)) (by simp [Value.oneCell']) (by omega) (by unfold maxLen; omega) (by omega) (by simp; omega) (wr.heap.size + 1) (by simp) ?_; intro gg cap w1 hown1 hgrow hat hlt1))
      all_goals
        have B1 : Below w.heap.size wr w1 := (((Below.refl w.heap.size wr).alloc hsw _).drew).grown hgrow (by show _ ≤ (wr.alloc _).heap.size; simp; omega) fun k hk => (HO.out.lt k hk).1
        go_wp2
        exact ⟨⟨i + 1, by omega, by go_num, by rw [HT.out, cells_app]; exact hown1, hwr.trans B1⟩, by simp [intOf]; omega⟩
    · have hlt' : ¬ (i : Int) < (s.size : Int) := by omega
      obtain rfl : i = s.size := by omega
      have h1 := HO.out
      rw [List.take_of_length_le (by simp)] at h1
      have hcv := Lib0.run_str (P := Try.prog) (src := 81) (dst := 9) Try.underlying81 Try.underlying5 Try.underlying9 h1
      clear h1
      go_wp2
      go_ret
      exact ⟨rfl, hwr⟩
theorem sc_at : ∀ (l : List El) (i : Nat) (h : i < l.length), (Al.sc l)[i * 4]? = some (.int .i64 (l[i].1 : Int)) ∧ (Al.sc l)[i * 4 + 1]? = some (.int .i64 l[i].2.tag) ∧ (Al.sc l)[i * 4 + 2]? = some (.string l[i].2.val) ∧ (Al.sc l)[i * 4 + 3]? = some l[i].2.kv
  | [], i, h => by simp at h
  | a :: l, 0, h => by simp [Al.sc]
  | a :: l, i + 1, h => by
    have := sc_at l i (by simpa using h)
    have e : Al.sc (a :: l) = [.int .i64 (a.1 : Int), .int .i64 a.2.tag, .string a.2.val, a.2.kv] ++ Al.sc l := by simp [Al.sc]
    rw [e]
    simp only [List.getElem_cons_succ]
    refine ⟨?_, ?_, ?_, ?_⟩
    · rw [List.getElem?_append_right (by simp; omega), show (i + 1) * 4 - [Value.int .i64 (a.1 : Int), .int .i64 a.2.tag, .string a.2.val, a.2.kv].length = i * 4 by simp; omega]; exact this.1
    · rw [List.getElem?_append_right (by simp; omega), show (i + 1) * 4 + 1 - [Value.int .i64 (a.1 : Int), .int .i64 a.2.tag, .string a.2.val, a.2.kv].length = i * 4 + 1 by simp; omega]; exact this.2.1
    · rw [List.getElem?_append_right (by simp; omega), show (i + 1) * 4 + 2 - [Value.int .i64 (a.1 : Int), .int .i64 a.2.tag, .string a.2.val, a.2.kv].length = i * 4 + 2 by simp; omega]; exact this.2.2.1
    · rw [List.getElem?_append_right (by simp; omega), show (i + 1) * 4 + 3 - [Value.int .i64 (a.1 : Int), .int .i64 a.2.tag, .string a.2.val, a.2.kv].length = i * 4 + 3 by simp; omega]; exact this.2.2.2
theorem step_cells {w : World} {base g cap : Nat} {l : List El} (h : w.ownsRow base 49 4 (.slice (some ⟨g, 0, none⟩) l.length cap) l.length (Al.sc l)) (i : Nat) (hi : i < l.length) :
    w.cell? ⟨g, i * 4, none⟩ = some (.int .i64 (l[i].1 : Int)) ∧ w.cell? ⟨g, i * 4 + 1, none⟩ = some (.int .i64 l[i].2.tag) ∧ w.cell? ⟨g, i * 4 + 2, none⟩ = some (.string l[i].2.val) ∧ w.cell? ⟨g, i * 4 + 3, none⟩ = some l[i].2.kv := by
  obtain ⟨a0, a1, a2, a3⟩ := sc_at l i hi
  have hc := h.cells (g := g) rfl
  refine ⟨?_, ?_, ?_, ?_⟩
  · rw [← add0]; exact hc _ _ a0
  · rw [← add0]; exact hc _ _ a1
  · rw [← add0]; exact hc _ _ a2
  · rw [← add0]; exact hc _ _ a3
end Go.Proofs.Ytgidjfhlooggkaa.Pd
