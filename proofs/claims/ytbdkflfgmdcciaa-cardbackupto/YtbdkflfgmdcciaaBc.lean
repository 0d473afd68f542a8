/- Tracks, plain: what the law makes up. -/
import Derived.Test.YtbdkflfgmdcciaaKc
import Derived.Test.YtbdkflfgmdcciaaDg
namespace Go.Proofs.Ytbdkflfgmdcciaa.Bc
set_option linter.unusedVariables false
open Go.RowKit Lib0 Kp Kb Kd Kt Ks Kw Ku Kx Kv Kq Km4 Kr Ke Kf Kc Dg Pick Sl Kg
theorem gb_ds (z : List Int) (n k : Nat) (h : k < n) : (gb (ds z n) k).toNat = 48 + dg z k := by
  have : gb (ds z n) k = UInt8.ofNat (48 + dg z k) := by
    unfold gb ds dl
    rw [List.getD_eq_getElem?_getD]
    simp [h]
  rw [this]; exact (dig_one _ (dg_lt z k)).2
theorem month_ok {z : List Int} {m m1 m2 : Nat} {p y : Int} (hz : z = [p, y, (m1 : Int), (m2 : Int)]) (h1 : 1 ≤ m) (h2 : m ≤ 12) (e1 : m / 10 = m1) (e2 : m % 10 = m2) : isMon (ds z 4) = true := by
  have d2 : dg z 2 = m1 := by
    subst hz
    simp [dg, pickOf]; omega
  have d3 : dg z 3 = m2 := by
    subst hz
    simp [dg, pickOf]; omega
  unfold isMon monOf two
  rw [ds_size, ds_ad, gb_ds z 4 2 (by omega), gb_ds z 4 3 (by omega), d2, d3]
  simp
  omega
theorem back_ok {a b c d : ByteArray} {n : Nat} (za : a.size = n) (n1 : 1 ≤ n) (n2 : n ≤ 19) (ha : ad a = true) (hb : b = Kx.em ∨ isMon b = true) (hc : c = Kx.em ∨ (c.size = 3 ∧ ad c = true)) (hd : ad d = true)
    (hs : n + 1 + (om b).size + (om c).size + d.size ≤ 37) : Vd a b c d := ⟨by omega, by omega, ha, hb, hc, hd, by rw [cat_size]; omega⟩
theorem wt_yes {a b c d : ByteArray} (h : Vd a b c d) : wtV a b c d = .tuple #[.string (cat a b c d), .int .i64 0] := by rw [wtV, wtP_eq, if_pos h]
theorem wt_no {a b c d : ByteArray} (h : 37 < (cat a b c d).size) : wtV a b c d = .tuple #[.string Kx.em, .int .i64 52] := by
  rw [wtV, wtP_eq, if_neg (fun hh => by have := hh.hs; omega)]
theorem rt_yes {a b c d : ByteArray} (h : Vd a b c d) : rtV (cat a b c d) = .tuple #[.agg #[.string a, .string b, .string c, .string d], .int .i64 0, .int .i64 0] := by rw [rtV, rt_of_vd h]; rfl
theorem lies4 (w : World) (p y m n : Int) (hp : (Lit.int .i64 p).wf = true) (hy : (Lit.int .i64 y).wf = true) (hm : (Lit.int .i64 m).wf = true) (hn : (Lit.int .i64 n).wf = true) :
    Lies (w.alloc (Obj.cells #[.int .i64 p, .int .i64 y, .int .i64 m, .int .i64 n] 3)) (.slice (some ⟨w.heap.size, 0, none⟩) 4 4) [p, y, m, n] := by
  refine .inr ⟨⟨w.heap.size, 0, none⟩, 4, rfl, Nat.le_refl _, by unfold maxLen; omega, ?_, ?_⟩
  · intro i hi
    have hh := h1_0 w (Obj.cells #[.int .i64 p, .int .i64 y, .int .i64 m, .int .i64 n] 3)
    rw [show (⟨w.heap.size, 0, none⟩ : Addr).add i = ⟨w.heap.size, i, none⟩ by unfold Addr.add; split <;> simp_all]
    have hi4 : i = 0 ∨ i = 1 ∨ i = 2 ∨ i = 3 := by simp at hi; omega
    rw [cell_of_row _ _ _ _ _ _ hh]
    rcases hi4 with rfl | rfl | rfl | rfl <;> rfl
  · intro x hx
    simp only [List.mem_cons, List.not_mem_nil, or_false] at hx
    rcases hx with rfl | rfl | rfl | rfl
    · exact hp
    · exact hy
    · exact hm
    · exact hn
theorem wf_nat {n : Nat} (h : n ≤ 1000) : (Lit.int .i64 (n : Int)).wf = true := by
  simp [Lit.wf, IntKind.min, IntKind.max, IntKind.signed, IntKind.bits]; omega
theorem keptS {x : World} {g b o : Nat} {v : Value} {ob : Obj} (h : x.heap[g]? = some ob) (hb : b ≠ g) : (x.setCell ⟨b, o, none⟩ v).heap[g]? = some ob := (Kt.setCell_ne hb o v).trans h
end Go.Proofs.Ytbdkflfgmdcciaa.Bc
