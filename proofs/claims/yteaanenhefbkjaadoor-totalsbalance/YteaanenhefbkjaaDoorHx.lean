/- Answer: both sides. -/
import Derived.Test.YteaanenhefbkjaaDoorHu
import Derived.Laws.IdiomStrings
namespace Go.Proofs.YteaanenhefbkjaaDoor.Hx
set_option linter.unusedVariables false
set_option linter.unusedSimpArgs false
open Go.RowKit Hp Hr Ht Hu
theorem ask_size {s : ByteArray} (h : askT s = true) : s.size = 4 := by
  unfold askT at h
  simp only [Bool.and_eq_true] at h
  exact (rt_facts s h.1).1
theorem below_dn {B : Nat} {a w : World} (h : Below B a w) (m : Nat) : Below B a (w.drewN m) := by
  induction m with
  | zero => exact h
  | succ m ih => exact ih.drew
def anS (s : ByteArray) : ByteArray := if askT s then ⟨#[s.data.toList.getD 0 0, s.data.toList.getD 1 0, s.data.toList.getD 2 0 + 1, 48]⟩ else ⟨#[]⟩
def anE (s : ByteArray) : Int := if askT s then 0 else 110
/-- four bytes in a block -/
structure F4 (x : World) (g : Nat) (a b c d : Int) : Prop where
  ex : ∃ cur n, x.heap[g]? = some (.cells cur 5 (n, n + 1)) ∧ 4 ≤ n ∧ cur[0]? = some (.int .u8 a) ∧ cur[1]? = some (.int .u8 b) ∧ cur[2]? = some (.int .u8 c) ∧ cur[3]? = some (.int .u8 d)
theorem F4.cells {x : World} {g : Nat} {a b c d : Int} (h : F4 x g a b c d) : (x.cell? ⟨g, 0, none⟩ = some (.int .u8 a) ∧ x.cell? ⟨g, 1, none⟩ = some (.int .u8 b) ∧ x.cell? ⟨g, 2, none⟩ = some (.int .u8 c) ∧ x.cell? ⟨g, 3, none⟩ = some (.int .u8 d)) ∧ (x.frozen? ⟨g, 2, none⟩ = false ∧ x.frozen? ⟨g, 3, none⟩ = false) := by
  obtain ⟨cur, n, hg, hn, h0, h1, h2, h3⟩ := h.ex
  refine ⟨⟨?_, ?_, ?_, ?_⟩, ?_, ?_⟩
  · simp [World.cell?, hg, h0]
  · simp [World.cell?, hg, h1]
  · simp [World.cell?, hg, h2]
  · simp [World.cell?, hg, h3]
  · simp [World.frozen?, hg]; omega
  · simp [World.frozen?, hg]; omega
theorem sc_heap {w : World} {g : Nat} {c : Array Value} {t : TypeId} {fr : Nat × Nat} (h : w.heap[g]? = some (.cells c t fr)) (o : Nat) (v : Value) : (w.setCell ⟨g, o, none⟩ v).heap[g]? = some (.cells (c.setIfInBounds o v) t fr) := by
  show (w.heap.modify g _)[g]? = _
  rw [Array.getElem?_modify]; simp [h]
theorem F4.set2 {x : World} {g : Nat} {a b c d : Int} (h : F4 x g a b c d) (v : Int) : F4 (x.setCell ⟨g, 2, none⟩ (.int .u8 v)) g a b v d := by
  obtain ⟨cur, n, hg, hn, h0, h1, h2, h3⟩ := h.ex
  have hl := (Array.getElem?_eq_some_iff.1 h2).1
  exact ⟨_, n, sc_heap hg 2 _, hn, by rw [Array.getElem?_setIfInBounds]; simp [h0], by rw [Array.getElem?_setIfInBounds]; simp [h1], by rw [Array.getElem?_setIfInBounds]; simp [hl], by rw [Array.getElem?_setIfInBounds]; simp [h3]⟩
theorem F4.set3 {x : World} {g : Nat} {a b c d : Int} (h : F4 x g a b c d) (v : Int) : F4 (x.setCell ⟨g, 3, none⟩ (.int .u8 v)) g a b c v := by
  obtain ⟨cur, n, hg, hn, h0, h1, h2, h3⟩ := h.ex
  have hl := (Array.getElem?_eq_some_iff.1 h3).1
  exact ⟨_, n, sc_heap hg 3 _, hn, by rw [Array.getElem?_setIfInBounds]; simp [h0], by rw [Array.getElem?_setIfInBounds]; simp [h1], by rw [Array.getElem?_setIfInBounds]; simp [h2], by rw [Array.getElem?_setIfInBounds]; simp [hl]⟩
theorem f4_of (x : World) (a b c d : UInt8) : ∃ C y, (convert 9 35 (.string ⟨#[a, b, c, d]⟩)).run Tryd.prog x = .ok (.slice (some ⟨x.heap.size, 0, none⟩) 4 C) y ∧ F4 y x.heap.size (a.toNat : Int) (b.toNat : Int) (c.toNat : Int) (d.toNat : Int) ∧ Below x.heap.size x y := by
  refine ⟨_, _, run_bytes_of_string (P := Tryd.prog) x 9 35 5 ⟨#[a, b, c, d]⟩ Tryd.underlying9 Tryd.underlying35 Tryd.underlying5, ⟨_, _, heap_alloc_new x.drew _, ?_, ?_, ?_, ?_, ?_⟩, ?_⟩
  · simp [bytesRow]
  · rw [bytesRow, Array.getElem?_append_left (by simp)]; simp
  · rw [bytesRow, Array.getElem?_append_left (by simp)]; simp
  · rw [bytesRow, Array.getElem?_append_left (by simp)]; simp
  · rw [bytesRow, Array.getElem?_append_left (by simp)]; simp
  · exact ((Below.refl _ _).drew).alloc (Nat.le_refl _) _
set_option maxRecDepth 100000 in
set_option maxHeartbeats 800000 in
theorem answer_any (s : ByteArray) (hl : s.size ≤ maxLen) (w : World) : Calls Tryd.prog 18 #[.string s] w fun e w' => e = .returned (.tuple #[.string (anS s), .int .i64 (anE s)]) ∧ Below w.heap.size w w' := by
  have pr := fun w => asks_any s hl w
  cases hr : askT s with
  | false =>
    have e1 : anS s = ⟨#[]⟩ := by rw [anS, hr]; rfl
    have e2 : anE s = 110 := by rw [anE, hr]; rfl
    rw [e1, e2]
    rw [hr] at pr
    go_enter Tryd.func18, Tryd.ntmps18
    go_wp2_with fail
    refine (pr _).mono ?_
    rintro e x ⟨rfl, m, hxx⟩
    have hb : Below w.heap.size w x := by rw [hxx]; exact below_dn (Below.refl _ _) m
    clear hxx
    go_wp2_with fail
    go_ret2
    exact ⟨rfl, hb⟩
  | true =>
    have hs := ask_size hr
    obtain ⟨a, b, c, d, rfl⟩ := four s hs
    have e1 : anS ⟨#[a, b, c, d]⟩ = ⟨#[a, b, c + 1, 48]⟩ := by rw [anS, hr]; rfl
    have e2 : anE ⟨#[a, b, c, d]⟩ = 0 := by rw [anE, hr]; rfl
    have hn := rt_nums (rt_facts _ (by unfold askT at hr; simp only [Bool.and_eq_true] at hr; exact hr.1)).2
    have hc : 48 ≤ c.toNat ∧ c.toNat ≤ 51 := ⟨hn.2.2.2.1, hn.2.2.2.2.1⟩
    have hc1 : (c + 1).toNat = c.toNat + 1 := by
      have : (1 : UInt8).toNat = 1 := rfl
      rw [UInt8.toNat_add, this]; omega
    rw [e1, e2]
    rw [hr] at pr
    clear e1 e2 hl hn
    go_enter Tryd.func18, Tryd.ntmps18
    go_wp2_with fail
    refine (pr _).mono ?_
    rintro e x ⟨rfl, m, hxx⟩
    have hb : Below w.heap.size w x := by rw [hxx]; exact below_dn (Below.refl _ _) m
    clear hxx
    obtain ⟨C, y, hcv, h4, hby⟩ := f4_of x a b c d
    obtain ⟨⟨c0, c1, c2, c3⟩, f2, f3⟩ := h4.cells
    have hg := hb.size
    have h5 := (h4.set2 ((c.toNat : Int) + 1))
    obtain ⟨⟨-, -, -, c13⟩, -, f13⟩ := h5.cells
    have h6 := h5.set3 48
    have q1 : IntKind.u8.wrap ((c.toNat : Int) + 1) = (c.toNat : Int) + 1 := by rw [IntKind.wrap_u8]; omega
    have q2 : (c.toNat : Int) + 1 ≤ 255 := by omega
    have hbk := run_convert_bytes_back (P := Tryd.prog) ((y.setCell ⟨x.heap.size, 2, none⟩ (.int .u8 ((c.toNat : Int) + 1))).setCell ⟨x.heap.size, 3, none⟩ (.int .u8 48)) 35 9 5 ⟨x.heap.size, 0, none⟩ C [a, b, c + 1, 48] Tryd.underlying35 Tryd.underlying5 Tryd.underlying9 (fun j hj => by
      obtain ⟨⟨k0, k1, k2, k3⟩, -⟩ := h6.cells
      match j, hj with
      | 0, _ => exact k0
      | 1, _ => exact k1
      | 2, _ => rw [show ([a, b, c + 1, 48] : List UInt8)[2] = c + 1 from rfl, hc1]; exact k2
      | 3, _ => exact k3)
    have HB : Hid (Below w.heap.size w ((y.setCell ⟨x.heap.size, 2, none⟩ (.int .u8 ((c.toNat : Int) + 1))).setCell ⟨x.heap.size, 3, none⟩ (.int .u8 48))) := ((hb.trans (hby.mono hg)).setCell (p := ⟨x.heap.size, 2, none⟩) hg _).setCell (p := ⟨x.heap.size, 3, none⟩) hg _
    clear h4 h5 h6 hby
    simp only [List.length_cons, List.length_nil, Nat.reduceAdd] at hbk
    go_wp2_with fail
    go_ret2
    exact ⟨rfl, HB.out⟩
end Go.Proofs.YteaanenhefbkjaaDoor.Hx
