/- RouteTries: the walk. -/
import Derived.Test.YtecboaocoobjgaaGreatDoorWq
import Derived.Test.YtecboaocoobjgaaGreatDoorSo
import Derived.Test.YtecboaocoobjgaaGreatDoorRk
import Derived.Laws.EntriesVeiled
namespace Go.Proofs.YtecboaocoobjgaaGreatDoor.Wv
set_option linter.unusedVariables false
set_option linter.unusedSimpArgs false
open Go.RowKit Go.Shelf Lib0 Kb Rp Rw Rs Li Mj Tj Kq Sr Ra Rj Da Db Dc Dd De Wd Ws Wi Wk Wn Wo Wp Wm Wq
attribute [local go_sem] Oper.semAt_some
theorem bnd {x : Int} (h : (Lit.int .i64 x).wf = true) : -9223372036854775808 ≤ x ∧ x ≤ 9223372036854775807 := by
  simp [Lit.wf, IntKind.min, IntKind.max, IntKind.signed, IntKind.bits] at h; omega
/-- one trie, the document's, and what All answered, all new -/
def Tb (y : World) (t r u : Nat) : Prop := y.heap[t]? = some (.cells #[.pointer none, .int .i64 0] tR) ∧ y.heap[r]? = some (.cells #[.slice none 0 0] tTr) ∧ y.heap[u]? = some (.cells #[pA t] tP)
theorem Tb.fr {y x : World} {t r u W : Nat} {c : Array Value} (h : Tb y t r u) (hW : y.heap[W]? = some (.cells c tW)) (f : Fr [W] y x) : Tb x t r u :=
  have k : ∀ {b : Nat} {c' : Array Value} {s : TypeId}, y.heap[b]? = some (.cells c' s) → s ≠ tW → x.heap[b]? = some (.cells c' s) := fun e n => (f.block _ (Array.getElem?_eq_some_iff.1 e).1 (by simpa using blk_ne e hW n)).trans e
  ⟨k h.1 (by decide), k h.2.1 (by decide), k h.2.2 (by decide)⟩
def sel (a b : Nat) (j : Nat) : Nat := if j = 0 then a else b
theorem tri_new {y : World} {X : List Nat} {t : Nat} (h : y.heap[t]? = some (.cells #[.pointer none, .int .i64 0] tR)) (m : t ∈ X) (a : ∀ x ∈ X, x < y.heap.size) : Tri y X t [] :=
  ⟨m, a, List.Pairwise.nil, fun x hx => by simp at hx, .nil, h, trivial, (fun k => by rw [mp_nil]; rfl), dp_nil 20⟩
theorem wd_new {w y : World} {W t0 t1 r0 r1 u0 u1 : Nat} (hW : y.heap[W]? = some (.cells #[pA t0, pA t1, pA r0, pA r1, fvA u0, fvA u1] tW)) (a : Tb y t0 r0 u0) (b : Tb y t1 r1 u1) (nt : t0 ≠ t1) (nr : r0 ≠ r1) (bl : Below w.heap.size w y) (lo : w.heap.size ≤ t0 ∧ w.heap.size ≤ t1 ∧ w.heap.size ≤ r0 ∧ w.heap.size ≤ r1) :
    Wd w y [t0, t1, r0, r1] W (sel t0 t1) (sel r0 r1) (sel u0 u1) (fun _ => []) := by
  have lt : ∀ {b : Nat} {c' : Array Value} {s : TypeId}, y.heap[b]? = some (.cells c' s) → b < y.heap.size := fun e => (Array.getElem?_eq_some_iff.1 e).1
  have al : ∀ x ∈ [t0, t1, r0, r1], x < y.heap.size := fun x hx => by
    simp only [List.mem_cons, List.not_mem_nil, or_false] at hx
    rcases hx with rfl | rfl | rfl | rfl
    · exact lt a.1
    · exact lt b.1
    · exact lt a.2.1
    · exact lt b.2.1
  have two : ∀ {P : Nat → Prop}, P 0 → P 1 → ∀ k, k < 2 → P k := fun p q k hk => by
    have : k = 0 ∨ k = 1 := by omega
    rcases this with rfl | rfl
    · exact p
    · exact q
  have row : ∀ {r : Nat}, y.heap[r]? = some (.cells #[.slice none 0 0] tTr) → ∃ v, y.heap[r]? = some (.cells #[v] tTr) ∧ Cp v ∧ RowL y v [] := fun h => ⟨_, h, ⟨none, 0, 0, rfl, Nat.le_refl _, by decide, fun _ => rfl⟩, ⟨none, 0, rfl, by simp, fun i hi => absurd hi (by simp)⟩⟩
  refine ⟨hW, two (tri_new a.1 (by simp [sel]) al) (tri_new b.1 (by simp [sel]) al), two (row a.2.1) (row b.2.1), two a.2.2 b.2.2, fun j k hj hk n => ?_, fun j k hj hk n => ?_, two (by simp [sel]) (by simp [sel]), fun x hx => ?_, bl⟩
  · have h1 : j = 0 ∨ j = 1 := by omega
    have h2 : k = 0 ∨ k = 1 := by omega
    rcases h1 with rfl | rfl <;> rcases h2 with rfl | rfl
    · exact absurd rfl n
    · exact nt
    · exact nt.symm
    · exact absurd rfl n
  · have h1 : j = 0 ∨ j = 1 := by omega
    have h2 : k = 0 ∨ k = 1 := by omega
    rcases h1 with rfl | rfl <;> rcases h2 with rfl | rfl
    · exact absurd rfl n
    · exact nr
    · exact nr.symm
    · exact absurd rfl n
  · simp only [List.mem_cons, List.not_mem_nil, or_false] at hx
    rcases hx with rfl | rfl | rfl | rfl
    · exact lo.1
    · exact lo.2.1
    · exact lo.2.2.1
    · exact lo.2.2.2
set_option maxRecDepth 100000 in
set_option maxHeartbeats 3200000 in
theorem walk (v0 : Value) (z0 : List So.Opv) (w : World) (w0 : So.Lies w v0 z0 140737488351232) (k0 : z0.length ≤ 140737488351232) :
    Calls Tryz.prog 3 #[v0] w fun e w' => e = .returned (.bool true) ∧ Below w.heap.size w w' := by
  obtain ⟨o0, cap0, rfl, hz⟩ := w0
  have HZ := hid hz
  clear hz
  obtain ⟨N, HN⟩ : ∃ N, Hid (z0.length = N) := ⟨_, rfl⟩
  rw [HN.out] at k0
  rw [HN.out]
  go_enter Tryz.func3, Tryz.ntmps3
  go_wp2_with fail
  refine (Rk.known_any _).mono ?_
  rintro e x ⟨rfl, hx⟩
  have HX := hid hx
  clear hx
  go_wp2_with fail
  obtain ⟨y, hy⟩ : ∃ y, x.alloc (.cells #[.pointer none, .pointer none, .pointer none, .pointer none, .nilFunc, .nilFunc] tW) = y := ⟨_, rfl⟩
  have hY : y.heap[x.heap.size]? = some (.cells #[.pointer none, .pointer none, .pointer none, .pointer none, .nilFunc, .nilFunc] tW) := hy ▸ Kb.h1_0 x _
  have hB : Below w.heap.size w y := Kb.keepB HX.out (hy ▸ Kb.below_one x _)
  have hWl : w.heap.size ≤ x.heap.size := HX.out.size
  rw [hy]
  obtain ⟨W, hWW⟩ : ∃ W, x.heap.size = W := ⟨_, rfl⟩
  rw [hWW] at hY hWl
  rw [hWW]
  have HWL := hid hWl
  clear hy hWW HX hWl
  go_loopw [5] (fun kv wr => Below w.heap.size w wr ∧ ((kv = .int .i64 0 ∧ wr.heap[W]? = some (.cells #[.pointer none, .pointer none, .pointer none, .pointer none, .nilFunc, .nilFunc] tW)) ∨ (kv = .int .i64 1 ∧ ∃ t0 r0 u0, wr.heap[W]? = some (.cells #[pA t0, .pointer none, pA r0, .pointer none, fvA u0, .nilFunc] tW) ∧ Tb wr t0 r0 u0 ∧ w.heap.size ≤ t0 ∧ w.heap.size ≤ r0) ∨ (kv = .int .i64 2 ∧ ∃ t0 t1 r0 r1 u0 u1, Wd w wr [t0, t1, r0, r1] W (sel t0 t1) (sel r0 r1) (sel u0 u1) (fun _ => [])))) (fun kv _ => 3 - (intOf kv).toNat)
  case atStart => exact ⟨hB, .inl ⟨rfl, hY⟩⟩
  case round =>
    clear hB hY
    obtain ⟨hB, ⟨rfl, hW⟩ | ⟨rfl, t0, r0, u0, hW, hT0, lt0, lr0⟩ | ⟨rfl, t0, t1, r0, r1, u0, u1, D⟩⟩ := hrel
    · have HB := hid hB
      clear hB
      have hlt : W < wr.heap.size := (Array.getElem?_eq_some_iff.1 hW).1
      obtain ⟨T, HT⟩ : ∃ T, Hid (wr.heap.size = T) := ⟨_, rfl⟩
      have NA : Calls Tryz.prog 5 #[] wr.drew fun e x1 => e = .returned (.pointer (some ⟨T, 0, none⟩)) ∧ x1.cell? ⟨W, 1, none⟩ = some (.pointer none) ∧ x1.cell? ⟨W, 0, none⟩ = some (.pointer none) ∧ x1.frozen? ⟨W, 0, none⟩ = false ∧ Hid (x1.heap[W]? = some (.cells #[.pointer none, .pointer none, .pointer none, .pointer none, .nilFunc, .nilFunc] tW) ∧ x1.heap[T]? = some (.cells #[.pointer none, .int .i64 0] tR) ∧ Below wr.heap.size wr x1 ∧ x1.heap.size = T + 1) := by
        refine (new_any wr.drew).mono ?_
        rintro e x1 ⟨rfl, hx⟩
        subst hx
        have B := (Below.refl wr.heap.size wr).drew.trans (Kb.below_one wr.drew (.cells #[.pointer none, .int .i64 0] tR))
        have hk := kept B hW
        refine ⟨by rw [← HT.out]; rfl, by simp [World.cell?, hk], by simp [World.cell?, hk], Wi.froz hk 0, hk, ?_, B, ?_⟩
        · rw [← HT.out]; exact Kb.h1_0 wr.drew _
        · rw [World.size_alloc, ← HT.out]; rfl
      have c0 : wr.drew.cell? ⟨W, 1, none⟩ = some (.pointer none) := by simp [World.cell?, show wr.drew.heap[W]? = some (.cells #[.pointer none, .pointer none, .pointer none, .pointer none, .nilFunc, .nilFunc] tW) from hW]
      have HW0 := hid hW
      clear hW
      go_wp2_with fail
      go_region_held3 (fun x => x.cell? ⟨W, 1, none⟩ = some (.pointer none)) (first | assumption | (go_keep; done) | (simp [go_sem, *]; done)) (first
        | (go_at_call 5; refine NA.mono ?_; rintro e x1 ⟨rfl, c1, c2, f1, HN1⟩))
      obtain ⟨y2, hy2⟩ : ∃ y2, x1.setCell ⟨W, 0, none⟩ (.pointer (some ⟨T, 0, none⟩)) = y2 := ⟨_, rfl⟩
      have hW2 : y2.heap[W]? = some (.cells #[pA T, .pointer none, .pointer none, .pointer none, .nilFunc, .nilFunc] tW) := by rw [← hy2, setCell_heap HN1.out.1 0]; rfl
      have hT2 : y2.heap[T]? = some (.cells #[.pointer none, .int .i64 0] tR) := by rw [← hy2]; exact (setCell_ne (by have := HT.out; omega) _ _).trans HN1.out.2.1
      have F2 : Fr [W] wr y2 := hy2 ▸ (Fr.of HN1.out.2.2.1).set (.inl (by simp)) _ _
      have s2 : y2.heap.size = T + 1 := by rw [← hy2, setCell_size]; exact HN1.out.2.2.2
      rw [hy2]
      clear hy2 c1 c2 f1 HN1 NA c0
      have e1 : y2.cell? ⟨W, 0, none⟩ = some (.pointer (some ⟨T, 0, none⟩)) := by simp [World.cell?, hW2, pA]
      have e2 : y2.cell? ⟨W, 2, none⟩ = some (.pointer none) := by simp [World.cell?, hW2]
      have e3 := Wi.froz hW2 2
      have B3 := Kb.below_one y2 (.cells #[.slice none 0 0] tTr)
      have hW3 := kept B3 hW2
      have d1 : (y2.alloc (.cells #[.slice none 0 0] tTr)).cell? ⟨W, 0, none⟩ = some (.pointer (some ⟨T, 0, none⟩)) := by rw [← e1]; exact World.cell?_of_block (a := ⟨W, 0, none⟩) (hW3.trans hW2.symm)
      have d2 : (y2.alloc (.cells #[.slice none 0 0] tTr)).cell? ⟨W, 2, none⟩ = some (.pointer none) := by rw [← e2]; exact World.cell?_of_block (a := ⟨W, 2, none⟩) (hW3.trans hW2.symm)
      have d3 := Wi.froz hW3 2
      have HG := hid (And.intro hW3 (And.intro (kept B3 hT2) (And.intro (Kb.h1_0 y2 (.cells #[.slice none 0 0] tTr)) (F2.trans (Fr.of B3)))))
      have S2 := hid s2
      clear hW2 hT2 F2 s2 B3 hW3
      go_wp2_with fail
      obtain ⟨R, HR⟩ : ∃ R, Hid (y2.heap.size = R) := ⟨_, rfl⟩
      rw [HR.out]
      rw [HR.out] at HG S2
      obtain ⟨y3, hy3⟩ : ∃ y3, (y2.alloc (.cells #[.slice none 0 0] tTr)).setCell ⟨W, 2, none⟩ (.pointer (some ⟨R, 0, none⟩)) = y3 := ⟨_, rfl⟩
      have hW3 : y3.heap[W]? = some (.cells #[pA T, .pointer none, pA R, .pointer none, .nilFunc, .nilFunc] tW) := by rw [← hy3, setCell_heap HG.out.1 2]; rfl
      have hT3 : y3.heap[T]? = some (.cells #[.pointer none, .int .i64 0] tR) := by rw [← hy3]; exact (setCell_ne (by have := HT.out; omega) _ _).trans HG.out.2.1
      have hR3 : y3.heap[R]? = some (.cells #[.slice none 0 0] tTr) := by rw [← hy3]; exact (setCell_ne (by have := HT.out; have := S2.out; omega) _ _).trans HG.out.2.2.1
      have F3 : Fr [W] wr y3 := hy3 ▸ HG.out.2.2.2.set (.inl (by simp)) _ _
      rw [hy3]
      clear hy3 e1 e2 e3 d1 d2 d3 HG HR
      obtain ⟨U, HU⟩ : ∃ U, Hid (y3.heap.size = U) := ⟨_, rfl⟩
      have NB : Calls Tryz.prog 6 #[.pointer (some ⟨T, 0, none⟩)] y3.drew fun e x1 => e = .returned (.func (.func 12) #[] #[.pointer (some ⟨U, 0, none⟩)]) ∧ x1.cell? ⟨W, 0, none⟩ = some (.pointer (some ⟨T, 0, none⟩)) ∧ x1.cell? ⟨W, 4, none⟩ = some (.nilFunc) ∧ x1.frozen? ⟨W, 4, none⟩ = false ∧ Hid (x1.heap[W]? = some (.cells #[pA T, .pointer none, pA R, .pointer none, .nilFunc, .nilFunc] tW) ∧ x1.heap[U]? = some (.cells #[pA T] tP) ∧ Below y3.heap.size y3 x1) := by
        refine (all_any T y3.drew).mono ?_
        rintro e x1 ⟨rfl, hx⟩
        subst hx
        have B := (Below.refl y3.heap.size y3).drew.trans (Kb.below_one y3.drew (.cells #[.pointer (some ⟨T, 0, none⟩)] 25))
        have hk := kept B hW3
        refine ⟨by rw [← HU.out]; rfl, by simp [World.cell?, hk, pA], by simp [World.cell?, hk], Wi.froz hk 4, hk, ?_, B⟩
        rw [← HU.out]; exact Kb.h1_0 y3.drew _
      have c0 : y3.drew.cell? ⟨W, 0, none⟩ = some (.pointer (some ⟨T, 0, none⟩)) := by simp [World.cell?, show y3.drew.heap[W]? = some (.cells #[pA T, .pointer none, pA R, .pointer none, .nilFunc, .nilFunc] tW) from hW3, pA]
      have G3 := hid (And.intro hT3 (And.intro hR3 F3))
      clear hW3 hT3 hR3 F3
      go_region_held3 (fun x => x.cell? ⟨W, 0, none⟩ = some (.pointer (some ⟨T, 0, none⟩))) (first | assumption | (go_keep; done) | (simp [go_sem, *]; done)) (first
        | (go_at_call 6; refine NB.mono ?_; rintro e x1 ⟨rfl, c1, c2, f1, HN1⟩))
      obtain ⟨y4, hy4⟩ : ∃ y4, x1.setCell ⟨W, 4, none⟩ (.func (.func 12) #[] #[.pointer (some ⟨U, 0, none⟩)]) = y4 := ⟨_, rfl⟩
      have hW4 : y4.heap[W]? = some (.cells #[pA T, .pointer none, pA R, .pointer none, fvA U, .nilFunc] tW) := by rw [← hy4, setCell_heap HN1.out.1 4]; rfl
      have F4 : Fr [W] wr y4 := hy4 ▸ (G3.out.2.2.trans (Fr.of HN1.out.2.2)).set (.inl (by simp)) _ _
      have sz3 : W < y3.heap.size := Nat.lt_of_lt_of_le hlt G3.out.2.2.size
      have hT4 : y4.heap[T]? = some (.cells #[.pointer none, .int .i64 0] tR) := by rw [← hy4]; exact (setCell_ne (by have := HT.out; omega) _ _).trans (kept HN1.out.2.2 G3.out.1)
      have hR4 : y4.heap[R]? = some (.cells #[.slice none 0 0] tTr) := by rw [← hy4]; exact (setCell_ne (by have := HT.out; have := S2.out; omega) _ _).trans (kept HN1.out.2.2 G3.out.2.1)
      have hU4 : y4.heap[U]? = some (.cells #[pA T] tP) := by rw [← hy4]; exact (setCell_ne (by have := HU.out; omega) _ _).trans HN1.out.2.1
      have HF := hid (And.intro hW4 (And.intro F4 (And.intro hT4 (And.intro hR4 hU4))))
      rw [hy4]
      clear hy4 hW4 F4 hT4 hR4 hU4 c1 c2 f1 HN1 NB c0 sz3
      go_wp2_with fail
      have B4 : Below w.heap.size w y4 := Fr.behind HB.out HF.out.2.1 (by simpa using HWL.out)
      have lw : w.heap.size ≤ T ∧ w.heap.size ≤ R := by have := HWL.out; have := HT.out; have := S2.out; omega
      refine ⟨⟨B4, .inr (.inl ⟨by simp, T, R, U, HF.out.1, HF.out.2.2, lw.1, lw.2⟩)⟩, by simp [intOf]⟩
    · have HB := hid hB
      have HT0 := hid (And.intro hT0 (And.intro lt0 lr0))
      clear hB hT0 lt0 lr0
      have hlt : W < wr.heap.size := (Array.getElem?_eq_some_iff.1 hW).1
      obtain ⟨T, HT⟩ : ∃ T, Hid (wr.heap.size = T) := ⟨_, rfl⟩
      have NA : Calls Tryz.prog 5 #[] wr.drew fun e x1 => e = .returned (.pointer (some ⟨T, 0, none⟩)) ∧ x1.cell? ⟨W, 0, none⟩ = some (pA t0) ∧ x1.cell? ⟨W, 1, none⟩ = some (.pointer none) ∧ x1.frozen? ⟨W, 1, none⟩ = false ∧ Hid (x1.heap[W]? = some (.cells #[pA t0, .pointer none, pA r0, .pointer none, fvA u0, .nilFunc] tW) ∧ x1.heap[T]? = some (.cells #[.pointer none, .int .i64 0] tR) ∧ Below wr.heap.size wr x1 ∧ x1.heap.size = T + 1) := by
        refine (new_any wr.drew).mono ?_
        rintro e x1 ⟨rfl, hx⟩
        subst hx
        have B := (Below.refl wr.heap.size wr).drew.trans (Kb.below_one wr.drew (.cells #[.pointer none, .int .i64 0] tR))
        have hk := kept B hW
        refine ⟨by rw [← HT.out]; rfl, by simp [World.cell?, hk], by simp [World.cell?, hk], Wi.froz hk 1, hk, ?_, B, ?_⟩
        · rw [← HT.out]; exact Kb.h1_0 wr.drew _
        · rw [World.size_alloc, ← HT.out]; rfl
      have c0 : wr.drew.cell? ⟨W, 0, none⟩ = some (pA t0) := by simp [World.cell?, show wr.drew.heap[W]? = some (.cells #[pA t0, .pointer none, pA r0, .pointer none, fvA u0, .nilFunc] tW) from hW]
      have HW0 := hid hW
      clear hW
      go_wp2_with fail
      go_region_held3 (fun x => x.cell? ⟨W, 0, none⟩ = some (pA t0)) (first | assumption | (go_keep; done) | (simp [go_sem, *]; done)) (first
        | (go_at_call 5; refine NA.mono ?_; rintro e x1 ⟨rfl, c1, c2, f1, HN1⟩))
      obtain ⟨y2, hy2⟩ : ∃ y2, x1.setCell ⟨W, 1, none⟩ (.pointer (some ⟨T, 0, none⟩)) = y2 := ⟨_, rfl⟩
      have hW2 : y2.heap[W]? = some (.cells #[pA t0, pA T, pA r0, .pointer none, fvA u0, .nilFunc] tW) := by rw [← hy2, setCell_heap HN1.out.1 1]; rfl
      have hT2 : y2.heap[T]? = some (.cells #[.pointer none, .int .i64 0] tR) := by rw [← hy2]; exact (setCell_ne (by have := HT.out; omega) _ _).trans HN1.out.2.1
      have F2 : Fr [W] wr y2 := hy2 ▸ (Fr.of HN1.out.2.2.1).set (.inl (by simp)) _ _
      have s2 : y2.heap.size = T + 1 := by rw [← hy2, setCell_size]; exact HN1.out.2.2.2
      rw [hy2]
      clear hy2 c1 c2 f1 HN1 NA c0
      have e1 : y2.cell? ⟨W, 1, none⟩ = some (.pointer (some ⟨T, 0, none⟩)) := by simp [World.cell?, hW2, pA]
      have e2 : y2.cell? ⟨W, 3, none⟩ = some (.pointer none) := by simp [World.cell?, hW2]
      have e3 := Wi.froz hW2 3
      have B3 := Kb.below_one y2 (.cells #[.slice none 0 0] tTr)
      have hW3 := kept B3 hW2
      have d1 : (y2.alloc (.cells #[.slice none 0 0] tTr)).cell? ⟨W, 1, none⟩ = some (.pointer (some ⟨T, 0, none⟩)) := by rw [← e1]; exact World.cell?_of_block (a := ⟨W, 1, none⟩) (hW3.trans hW2.symm)
      have d2 : (y2.alloc (.cells #[.slice none 0 0] tTr)).cell? ⟨W, 3, none⟩ = some (.pointer none) := by rw [← e2]; exact World.cell?_of_block (a := ⟨W, 3, none⟩) (hW3.trans hW2.symm)
      have d3 := Wi.froz hW3 3
      have HG := hid (And.intro hW3 (And.intro (kept B3 hT2) (And.intro (Kb.h1_0 y2 (.cells #[.slice none 0 0] tTr)) (F2.trans (Fr.of B3)))))
      have S2 := hid s2
      clear hW2 hT2 F2 s2 B3 hW3
      go_wp2_with fail
      obtain ⟨R, HR⟩ : ∃ R, Hid (y2.heap.size = R) := ⟨_, rfl⟩
      rw [HR.out]
      rw [HR.out] at HG S2
      obtain ⟨y3, hy3⟩ : ∃ y3, (y2.alloc (.cells #[.slice none 0 0] tTr)).setCell ⟨W, 3, none⟩ (.pointer (some ⟨R, 0, none⟩)) = y3 := ⟨_, rfl⟩
      have hW3 : y3.heap[W]? = some (.cells #[pA t0, pA T, pA r0, pA R, fvA u0, .nilFunc] tW) := by rw [← hy3, setCell_heap HG.out.1 3]; rfl
      have hT3 : y3.heap[T]? = some (.cells #[.pointer none, .int .i64 0] tR) := by rw [← hy3]; exact (setCell_ne (by have := HT.out; omega) _ _).trans HG.out.2.1
      have hR3 : y3.heap[R]? = some (.cells #[.slice none 0 0] tTr) := by rw [← hy3]; exact (setCell_ne (by have := HT.out; have := S2.out; omega) _ _).trans HG.out.2.2.1
      have F3 : Fr [W] wr y3 := hy3 ▸ HG.out.2.2.2.set (.inl (by simp)) _ _
      rw [hy3]
      clear hy3 e1 e2 e3 d1 d2 d3 HG HR
      obtain ⟨U, HU⟩ : ∃ U, Hid (y3.heap.size = U) := ⟨_, rfl⟩
      have NB : Calls Tryz.prog 6 #[.pointer (some ⟨T, 0, none⟩)] y3.drew fun e x1 => e = .returned (.func (.func 12) #[] #[.pointer (some ⟨U, 0, none⟩)]) ∧ x1.cell? ⟨W, 1, none⟩ = some (.pointer (some ⟨T, 0, none⟩)) ∧ x1.cell? ⟨W, 5, none⟩ = some (.nilFunc) ∧ x1.frozen? ⟨W, 5, none⟩ = false ∧ Hid (x1.heap[W]? = some (.cells #[pA t0, pA T, pA r0, pA R, fvA u0, .nilFunc] tW) ∧ x1.heap[U]? = some (.cells #[pA T] tP) ∧ Below y3.heap.size y3 x1) := by
        refine (all_any T y3.drew).mono ?_
        rintro e x1 ⟨rfl, hx⟩
        subst hx
        have B := (Below.refl y3.heap.size y3).drew.trans (Kb.below_one y3.drew (.cells #[.pointer (some ⟨T, 0, none⟩)] 25))
        have hk := kept B hW3
        refine ⟨by rw [← HU.out]; rfl, by simp [World.cell?, hk, pA], by simp [World.cell?, hk], Wi.froz hk 5, hk, ?_, B⟩
        rw [← HU.out]; exact Kb.h1_0 y3.drew _
      have c0 : y3.drew.cell? ⟨W, 1, none⟩ = some (.pointer (some ⟨T, 0, none⟩)) := by simp [World.cell?, show y3.drew.heap[W]? = some (.cells #[pA t0, pA T, pA r0, pA R, fvA u0, .nilFunc] tW) from hW3, pA]
      have G3 := hid (And.intro hT3 (And.intro hR3 F3))
      clear hW3 hT3 hR3 F3
      go_region_held3 (fun x => x.cell? ⟨W, 1, none⟩ = some (.pointer (some ⟨T, 0, none⟩))) (first | assumption | (go_keep; done) | (simp [go_sem, *]; done)) (first
        | (go_at_call 6; refine NB.mono ?_; rintro e x1 ⟨rfl, c1, c2, f1, HN1⟩))
      obtain ⟨y4, hy4⟩ : ∃ y4, x1.setCell ⟨W, 5, none⟩ (.func (.func 12) #[] #[.pointer (some ⟨U, 0, none⟩)]) = y4 := ⟨_, rfl⟩
      have hW4 : y4.heap[W]? = some (.cells #[pA t0, pA T, pA r0, pA R, fvA u0, fvA U] tW) := by rw [← hy4, setCell_heap HN1.out.1 5]; rfl
      have F4 : Fr [W] wr y4 := hy4 ▸ (G3.out.2.2.trans (Fr.of HN1.out.2.2)).set (.inl (by simp)) _ _
      have sz3 : W < y3.heap.size := Nat.lt_of_lt_of_le hlt G3.out.2.2.size
      have hT4 : y4.heap[T]? = some (.cells #[.pointer none, .int .i64 0] tR) := by rw [← hy4]; exact (setCell_ne (by have := HT.out; omega) _ _).trans (kept HN1.out.2.2 G3.out.1)
      have hR4 : y4.heap[R]? = some (.cells #[.slice none 0 0] tTr) := by rw [← hy4]; exact (setCell_ne (by have := HT.out; have := S2.out; omega) _ _).trans (kept HN1.out.2.2 G3.out.2.1)
      have hU4 : y4.heap[U]? = some (.cells #[pA T] tP) := by rw [← hy4]; exact (setCell_ne (by have := HU.out; omega) _ _).trans HN1.out.2.1
      have HF := hid (And.intro hW4 (And.intro F4 (And.intro hT4 (And.intro hR4 hU4))))
      rw [hy4]
      clear hy4 hW4 F4 hT4 hR4 hU4 c1 c2 f1 HN1 NB c0 sz3
      go_wp2_with fail
      have B4 : Below w.heap.size w y4 := Fr.behind HB.out HF.out.2.1 (by simpa using HWL.out)
      have lw : w.heap.size ≤ T ∧ w.heap.size ≤ R := by have := HWL.out; have := HT.out; have := S2.out; omega
      refine ⟨⟨B4, .inr (.inr ⟨by simp, t0, T, r0, R, u0, U, wd_new HF.out.1 (HT0.out.1.fr HW0.out HF.out.2.1) HF.out.2.2 (by have := (Array.getElem?_eq_some_iff.1 HT0.out.1.1).1; have := HT.out; omega) (by have := (Array.getElem?_eq_some_iff.1 HT0.out.1.2.1).1; have := HT.out; have := S2.out; omega) B4 ⟨HT0.out.2.1, lw.1, HT0.out.2.2, lw.2⟩⟩)⟩, by simp [intOf]⟩
    · obtain ⟨X, t, r, u, HD⟩ : ∃ X t r u, Hid (Wd w wr X W t r u fun _ => []) := ⟨_, _, _, _, D⟩
      clear hB D
      go_wp2_with fail
      go_loopw [6] (fun iv wr2 => ∃ i : Nat, iv = .int .i64 (i : Int) ∧ i ≤ N ∧ i ≤ 200 ∧ ∃ L, Wd w wr2 X W t r u L ∧ ∀ j, (L j).length ≤ 300 * i) (fun iv _ => 201 - (intOf iv).toNat)
      case atStart => exact ⟨0, rfl, Nat.zero_le _, Nat.zero_le _, fun _ => [], HD.out, fun j => by simp⟩
      case round =>
        clear HD
        obtain ⟨i, rfl, hi1, hi2, L, D, hl⟩ := hrel
        have HI := hid (And.intro hi1 hi2)
        have HD := hid D
        have HL := hid hl
        clear hi1 hi2 D hl
        have q1 : (0 : Int) ≤ (i : Int) := by omega
        by_cases hN : i < N
        · by_cases h2 : i < 200
          · obtain ⟨a, ho, hAt, hF⟩ := HZ.out i (by rw [HN.out]; exact hN)
            subst ho
            have hA2 := So.at_below hAt rfl HD.out.bel
            clear hAt
            generalize z0[i]'(by rw [HN.out]; exact hN) = op at hA2 hF
            obtain ⟨kind, on, pr, v, leave, inn, oth⟩ := op
            simp only [So.At, So.Opv.Fine] at hA2 hF
            obtain ⟨r0, r1, r2, r3, r4, r5, r6⟩ := hA2
            obtain ⟨g0, g1, g2, g3, g4, g5, g6⟩ := hF
            rw [So.add_field _ _ _ (by decide)] at r1 r2 r3 r4 r5 r6
            have ST := step_any HD.out ⟨kind, on, pr, v, leave, inn, oth⟩ (by show pr.size + 3 ≤ maxLen; simp only [maxLen]; omega) (by show oth.size ≤ maxLen; simp only [maxLen]; omega) (fun j => by have := HL.out j; omega) (bnd g3).1 (bnd g3).2 (bnd g1).1 (bnd g1).2
            simp only [Stp.cs] at ST
            have q0 : (i : Int) < (N : Int) := by omega
            have q2 : (i : Int) < 200 := by omega
            have HH := hid (And.intro hN h2)
            clear g0 g1 g2 g3 g4 g5 g6 hN h2
            go_wp2_with (go_at_call 7; refine ST.mono ?_; rintro e x2 ⟨rfl, L', hW, hl⟩; have HW := hid hW; have HL2 := hid hl; clear hW hl)
            refine ⟨⟨i + 1, by simp, HH.out.1, HH.out.2, L', HW.out, fun j => ?_⟩, ?_⟩
            · have := HL2.out j
              have := HL.out j
              omega
            · simp only [intOf]
              have := HH.out.2
              omega
          · have q2 : ¬ (i : Int) < 200 := by omega
            have q0 : (i : Int) < (N : Int) := by omega
            clear hN h2
            go_wp2_with fail
            go_ret
            exact ⟨rfl, HD.out.bel⟩
        · have q0 : ¬ (i : Int) < (N : Int) := by omega
          clear hN
          go_wp2_with fail
          go_ret
          exact ⟨rfl, HD.out.bel⟩
end Go.Proofs.YtecboaocoobjgaaGreatDoor.Wv
