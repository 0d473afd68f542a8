/- The law's maker of nodes: values. -/
import Derived.Test.YtgidjfhlooggkaaMk
import Derived.Test.YtgidjfhlooggkaaNb
namespace Go.Proofs.Ytgidjfhlooggkaa.Mv
set_option linter.unusedVariables false
set_option linter.unusedSimpArgs false
open Go.RowKit Kb Ga Gb Gc Gd Nt Mk Gj
theorem Lm.row {w x y : World} {g n cap : Nat} {o : Option Addr} {a m : Int} (h : Lm w g o n cap a m x) (h0 : Raw w g o n) (hg : g < w.heap.size) (k : Below w.heap.size x y) : Lm w g o n cap a m y := by
  have gr : w.grownBy y (some g) := ⟨k.os.trans h.3.os, k.tape.trans h.3.tape, k.output.trans h.3.output, Nat.le_trans h.3.size k.size, fun i hi hne => (k.block i hi).trans (h.3.block i hi hne)⟩
  exact ⟨(k.block g hg).trans h.1, h0.grown gr, gr⟩
theorem Lm.lt {w x : World} {g n cap : Nat} {o : Option Addr} {a m : Int} (h : Lm w g o n cap a m x) : g < x.heap.size := (Array.getElem?_eq_some_iff.1 h.1).1
set_option maxRecDepth 100000 in
set_option maxHeartbeats 1600000 in
theorem value_any {w : World} {g n cap : Nat} {o : Option Addr} {a : Nat} {m : Int} (h : Lm w g o n cap (a : Int) m w) (most : Int) (hm0 : 0 < most) (hm : most ≤ 140) (ha : a ≤ 1000000) :
    Calls Try.prog 89 #[.pointer (some ⟨g, 0, none⟩), .int .i64 most] w fun e w' => ∃ (s : ByteArray) (a' : Nat), e = .returned (.string s) ∧ s.size < 140 ∧ a ≤ a' ∧ a' ≤ a + 140 ∧ Lm w g o n cap (a' : Int) m w' := by
  have hgw := Lm.lt h
  obtain ⟨ia, hia, hza0, hza1, hza2⟩ := info_parts infoB
  go_enter Try.func89, Try.ntmps89
  go_wp2_with fail
  refine (next_any h most (by omega) (by omega) (by omega)).mono ?_
  rintro _ x ⟨r, rfl, r0, r1, hx⟩
  obtain ⟨N, rfl⟩ : ∃ N : Nat, r = (N : Int) := ⟨r.toNat, by omega⟩
  go_wp2
  go_loopw [6, 7] (fun vb vi wr => ∃ (i : Nat) (E : List UInt8), i ≤ N ∧ vi = .int .i64 (i : Int) ∧ E.length = i ∧ wr.ownsRow w.heap.size 5 1 vb E.length (Lib.byteCells E) ∧ Lm w g o n cap ((a + 1 + i : Nat) : Int) m wr) (fun _ vi _ => N - (intOf vi).toNat)
  case atStart => exact ⟨0, [], Nat.zero_le _, rfl, rfl, World.ownsRow_nil _ _ _ _, hx⟩
  case round =>
    obtain ⟨i, E, hi, rfl, hE, ho, hl⟩ := hrel
    rename World => wr
    rw [hE] at ho
    obtain ⟨uo, uc, rfl⟩ := own_form ho
    have HO : Hid (World.ownsRow wr w.heap.size 5 1 (.slice uo i uc) i (Lib.byteCells E)) := ho
    clear ho
    by_cases hlt : i < N
    · have hlt' : (i : Int) < (N : Int) := by omega
      go_wp2_with fail
      refine (next_any hl.again 256 (by omega) (by omega) (by omega)).mono ?_
      rintro _ y ⟨z, rfl, z0, z1, hy⟩
      have hl2 := hl.then hy
      have HY : Hid (World.ownsRow y w.heap.size 5 1 (.slice uo i uc) i (Lib.byteCells E)) := owns_keep HO.out fun q hq => hy.3.block q (HO.out.lt q hq).2 (by have := (HO.out.lt q hq).1; intro e; injection e with e; omega)
      have hsy : w.heap.size ≤ y.heap.size := hl2.3.size
      clear HO
      go_wp2_with (at_builtin; refine wpList_append_lies _ rfl _ _ _ rfl w.heap.size 5 ia _ 1 1 Try.underlying81 hia hza0 hza1 hza2 rfl (by omega) _ i _ rfl (HY.out.alloc _) ⟨y.heap.size, 0, Option.none⟩ 1 1 _ rfl (by rfl) (World.news_of_block (heap_alloc_new y _)) (by simp [Value.oneCell']) (by omega) (by unfold maxLen; omega) (by omega) (by first | omega | (simp <;> omega)) (y.heap.size + 1) (by simp) ?_; intro g1 c1 w1 own1 gr1 hat1 hlt1)
      have B1 := grow3 hsy HY.out gr1
      have hl3 := Lm.row hl2 h.2 hgw B1
      have hb8 := b8_val z
      refine ⟨⟨i + 1, E ++ [b8 z], by omega, by go_num, by simp [hE], ?_, hl3⟩, by simp [intOf]; omega⟩
      rw [List.length_append, hE, Lib.byteCells_append, byte_one (b8 z) z (by omega)]
      exact own1
    · have hlt' : ¬ (i : Int) < (N : Int) := by omega
      have hcv : (convert 81 9 (.slice uo i uc)).run Try.prog wr = .ok (.string ⟨E.toArray⟩) wr := by
        have := HO.out
        subst hE
        exact Lib0.run_str Try.underlying81 Try.underlying5 Try.underlying9 this
      clear HO
      go_wp2
      go_ret
      exact ⟨⟨E.toArray⟩, rfl, by have : (⟨E.toArray⟩ : ByteArray).size = E.length := rfl
                                  omega, _, by omega, by omega, hl⟩
end Go.Proofs.Ytgidjfhlooggkaa.Mv
