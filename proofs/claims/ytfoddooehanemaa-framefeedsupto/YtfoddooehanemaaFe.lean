/- Frames: opens, New, Waits, Idle, Reset. -/
import Derived.Test.YtfoddooehanemaaFm
import Derived.Deep.OwnRows
namespace Go.Proofs.Ytfoddooehanemaa.Fe
set_option linter.unusedVariables false
set_option linter.unusedSimpArgs false
open Go.RowKit Lib0 Kb Fa Fb Fc Fm
theorem at_take (l : List UInt8) (n k : Nat) (h : k < n) : at_ (l.take n) k = at_ l k := by
  simp [at_, List.getD_eq_getElem?_getD, List.getElem?_take, h]
theorem tell_take (h m : Nat) (a b c d : UInt8) : tell h m ([a, b, c, d].take (wid h)) = tell h m [a, b, c, d] := by
  unfold tell num
  by_cases h2 : h = 2
  · rw [show wid h = 4 by rw [wid, if_pos h2]]; rfl
  · rw [show wid h = 2 by rw [wid, if_neg h2]]
    simp only [if_neg h2]
    rw [at_take _ 2 0 (by decide), at_take _ 2 1 (by decide)]
theorem bs_made (n : Nat) : madeCells #[.int .u8 0] n = (bs (List.replicate n 0)).toArray := by
  apply Array.ext_getElem?
  intro i
  by_cases hi : i < n
  · simp [madeCells, bs, hi, Nat.mod_one]
  · rw [Array.getElem?_eq_none (by simp [madeCells]; omega), Array.getElem?_eq_none (by simp [bs]; omega)]
theorem info : (Try.prog.info? 5).map (fun i => (i.zero, i.size, i.bytes)) = some (some (.int .u8 0), 1, 1) := by kernel_rfl
set_option maxRecDepth 100000 in
set_option maxHeartbeats 1600000 in
theorem opens_any {w : World} {g h m : Nat} {a b c d : UInt8} {body : Value} {t i e : Nat} (S : Sm w g h m a b c d body t i e) (h1 : 1 ≤ h) (h4 : h ≤ 4) (hm : m ≤ 9999) :
    Calls Try.prog 37 #[.pointer (some ⟨g, 0, none⟩)] w fun e' w' => e' = .returned (.tuple #[]) ∧ Fr [g] w w' ∧ ∃ body', Sm w' g h m a b c d body' 0 i (tell h m [a, b, c, d]).2 ∧ ((tell h m [a, b, c, d]).1 = 0 → body' = .slice none 0 0) ∧ ((tell h m [a, b, c, d]).1 ≠ 0 → ∃ gp, w.heap.size ≤ gp ∧ body' = .slice (some ⟨gp, 0, none⟩) (tell h m [a, b, c, d]).1 (tell h m [a, b, c, d]).1 ∧ w'.heap[gp]? = some (.cells (bs (List.replicate (tell h m [a, b, c, d]).1 0)).toArray 5)) := by
  obtain ⟨i0, hi, hz0, hz1, hz2⟩ := info_parts info
  have p : Hid (∀ x, Below w.heap.size w x → Calls Try.prog 46 #[.int .i64 (h : Int), .int .i64 (m : Int), .slice (some ⟨g, 2, none⟩) 4 4] x fun e w' => e = .returned (.tuple #[.int .i64 ((tell h m [a, b, c, d]).1 : Int), .int .i64 ((tell h m [a, b, c, d]).2 : Int)]) ∧ Below w.heap.size w w') := by
    intro x hx
    have Sx := S.below hx S.lt
    refine (told_any h m h1 h4 hm a b c d g 4 x Sx.lt (Sx.ce 2) (Sx.ce 3) (Sx.ce 4) (Sx.ce 5)).mono ?_
    rintro e y ⟨rfl, hy⟩
    exact ⟨rfl, hx.trans (hy.mono hx.size)⟩
  have hle := tell_le h m [a, b, c, d]
  have c0 : w.cell? ⟨g, 0, none⟩ = some (.int .i64 (h : Int)) := S.ce 0
  have c1 : w.cell? ⟨g, 1, none⟩ = some (.int .i64 (m : Int)) := S.ce 1
  generalize (tell h m [a, b, c, d]).1 = T1 at *
  generalize (tell h m [a, b, c, d]).2 = T2 at *
  have hT : (T1 : Int) ≤ 9999 := by omega
  have HS : Hid (Sm w g h m a b c d body t i e) := S
  have HG : Hid (g < w.heap.size) := S.lt
  clear S hle
  go_enter Try.func37, Try.ntmps37
  go_wp2
  go_region_held3 (fun x => x.cell? ⟨g, 0, none⟩ = some (.int .i64 (h : Int)) ∧ x.cell? ⟨g, 1, none⟩ = some (.int .i64 (m : Int)) ∧ Below w.heap.size w x) (refine ⟨?_, ?_, ?_⟩ <;> first | assumption | exact (Below.refl _ _).drew | (go_keep; done))
    (first | (go_at_call 46; refine (p.out _ (And.right (And.right (by assumption)))).mono ?_; rintro e y ⟨rfl, hy⟩; have y0 := (hy.cell (p := ⟨g, 0, none⟩) HG.out).trans c0; have y1 := (hy.cell (p := ⟨g, 1, none⟩) HG.out).trans c1))
  have Sy := HS.out.below hy HG.out
  go_wp2_with fail
  refine (drop_any Sy).mono ?_
  rintro e1 x ⟨rfl, Sx, fx⟩
  have F1 : Hid (Fr [g] w x) := (Fr.of hy).trans fx
  have k9 : x.cell? ⟨g, 9, none⟩ = some (.int .i64 (e : Int)) := Sx.ce 9
  have f9 := Sx.fz 9
  have HX : Hid (Sm x g h m a b c d (.slice none 0 0) 0 i e) := Sx
  clear Sx fx Sy hy y0 y1
  by_cases h0 : T1 = 0
  · subst h0
    go_wp2_with fail
    go_end0
    exact ⟨rfl, F1.out.set (.inl (by simp)) _ _, HX.out.set9 T2⟩
  · have q0 : (0 : Int) < (T1 : Int) := by omega
    have S3 := HX.out.set9 T2
    obtain ⟨W4, HW⟩ : ∃ W4, Hid ((x.setCell ⟨g, 9, none⟩ (.int .i64 (T2 : Int))).alloc (.cells (bs (List.replicate T1 0)).toArray 5) = W4) := ⟨_, rfl⟩
    have S4 : Sm W4 g h m a b c d (.slice none 0 0) 0 i T2 := HW.out ▸ S3.alloc _
    have k6 : W4.cell? ⟨g, 6, none⟩ = some (.slice none 0 0) := S4.ce 6
    have f6 := S4.fz 6
    have A4 : Hid (W4.heap[x.heap.size]? = some (.cells (bs (List.replicate T1 0)).toArray 5)) := HW.out ▸ (by
      have := h1_0 (x.setCell ⟨g, 9, none⟩ (.int .i64 (T2 : Int))) (.cells (bs (List.replicate T1 0)).toArray 5)
      rwa [show (x.setCell ⟨g, 9, none⟩ (.int .i64 (T2 : Int))).heap.size = x.heap.size by simp [World.setCell]] at this)
    have F4 : Hid (Fr [g] w W4) := HW.out ▸ (F1.out.set (.inl (by simp)) _ _).behind ((Below.refl _ _).alloc (by have := F1.out.size; simpa [World.setCell] using this) _)
    have H4 : Hid (Sm W4 g h m a b c d (.slice none 0 0) 0 i T2) := S4
    have HL : Hid (w.heap.size ≤ x.heap.size) := F1.out.size
    have HG2 : Hid (g < x.heap.size) := HX.out.lt
    clear S3 S4
    go_wp2_with (at_make; refine wpList_make_row _ rfl _ _ 37 rfl 5 i0 _ Try.underlying37 hi hz0 hz1 rfl _ _ T1 rfl rfl (by rw [hz2]; omega) (by omega) ?_; rw [bs_made, HW.out])
    go_end0
    exact ⟨rfl, F4.out.set (.inl (by simp)) _ _, _, H4.out.set6 _, fun h => absurd h h0, fun _ => ⟨_, HL.out, rfl, (setCell_ne (by have := HG2.out; omega) _ _).trans A4.out⟩⟩
theorem infoS : (Try.prog.info? 70).map (·.size) = some 10 := by kernel_rfl
def newE (h m : Int) : Nat := if rgt h m then 0 else 1
set_option maxRecDepth 100000 in
theorem new_bad (h m : Int) (hr : rgt h m = false) (w : World) : Calls Try.prog 9 #[.int .i64 h, .int .i64 m] w fun e' w' => e' = .returned (.tuple #[.pointer none, .int .i64 1]) ∧ w' = w := by
  have p := fun w => right_any h m w
  rw [hr] at p
  go_enter Try.func9, Try.ntmps9
  go_wp2_with (go_at_call 33; refine (p _).mono ?_; rintro e y ⟨rfl, hy⟩; rw [hy]; clear hy y)
  go_ret2
  exact ⟨rfl, rfl⟩
set_option maxRecDepth 100000 in
theorem new_any (h m : Nat) (hr : rgt (h : Int) (m : Int) = true) (w : World) : Calls Try.prog 9 #[.int .i64 (h : Int), .int .i64 (m : Int)] w fun e' w' => e' = .returned (.tuple #[.pointer (some ⟨w.heap.size, 0, none⟩), .int .i64 0]) ∧ Sm w' w.heap.size h m 0 0 0 0 (.slice none 0 0) 0 0 0 ∧ Below w.heap.size w w' := by
  have p := fun w => right_any h m w
  rw [hr] at p
  go_enter Try.func9, Try.ntmps9
  go_wp2_with (go_at_call 33; refine (p _).mono ?_; rintro e y ⟨rfl, hy⟩; rw [hy]; clear hy y)
  go_ret2
  exact ⟨rfl, h1_0 w _, below_one w _⟩
end Go.Proofs.Ytfoddooehanemaa.Fe
