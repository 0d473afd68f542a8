/- Ask that is refused; Used; New. -/
import Derived.Test.YtmaikkhemhonhaaDy
namespace Go.Proofs.Ytmaikkhemhonhaa.Eg
set_option linter.unusedVariables false
set_option linter.unusedSimpArgs false
open Go.RowKit Go.Maps Lib0 Kb Xp Da Db Dc Dd De Df Dh Di Dj Dk Dl Dm Dn Dp Dq Dr Ds Dt Du Dv Dw Dy
attribute [local go_sem] Oper.semAt_some
set_option maxRecDepth 100000 in
set_option maxHeartbeats 1600000 in
theorem ask_no {w : World} {base b : Nat} {S : St} {m : Nat} (h : Bk w base b S m) (l : Lm) (hl : isR l = true) (c : ByteArray) (hc : c.size ≤ 1000000) (hce : c.toList.isEmpty = false) (u now : Int) (hu : isA u = true) (hn1 : now ≤ 9223372036854775807) (r : Int) (hr : (now < S.now ∧ r = 1) ∨ (S.now ≤ now ∧ bey S.G l c u now = true ∧ r = 210)) : Calls Try.prog 15 #[.pointer (some ⟨b, 0, none⟩), lmv l, .string c, .int .i64 u, .int .i64 now] w fun e w' => e = .returned (.int .i64 r) ∧ Below w.heap.size w w' := by
  have hu2 : 0 ≤ u ∧ u ≤ 999999999999 := by simpa [isA] using hu
  have iv := h.iv
  obtain ⟨w1, hw1⟩ : ∃ w1, w.alloc (.cells #[.int .i64 l.single, .int .i64 l.count, .int .i64 l.sum, .int .i64 l.window] 36) = w1 := ⟨_, rfl⟩
  have B1 : Below w.heap.size w w1 := hw1 ▸ below_one _ _
  have HW1 : w1.heap[w.heap.size]? = some (.cells #[.int .i64 l.single, .int .i64 l.count, .int .i64 l.sum, .int .i64 l.window] 36) := hw1 ▸ h1_0 _ _
  have HB1 : Hid (Below w.heap.size w w1) := B1
  have HAM : Hid (∀ y, Calls Try.prog 25 #[.int .i64 u] y fun e w' => e = .returned (.bool true) ∧ w' = y) := fun y => by have := isAmount_any u y; rw [hu] at this; exact this
  have HRI : Hid (∀ y, Calls Try.prog 23 #[lmv l] y fun e w' => e = .returned (.bool true) ∧ Below y.heap.size y w') := fun y => by have := isRight_any l y; rw [hl] at this; exact this
  have HKEEP : Hid (∀ x, Below w1.heap.size w1 x → (x.cell? ⟨w.heap.size, 0, none⟩ = some (.int .i64 l.single) ∧ x.cell? ⟨w.heap.size, 1, none⟩ = some (.int .i64 l.count) ∧ x.cell? ⟨w.heap.size, 2, none⟩ = some (.int .i64 l.sum) ∧ x.cell? ⟨w.heap.size, 3, none⟩ = some (.int .i64 l.window)) ∧ x.cell? ⟨b, 1, none⟩ = some (.int .i64 S.now)) := fun x hx => by
    obtain ⟨cm, cn, D, e0, e1, e2, -⟩ := bk_cells (h.below (keepB B1 hx))
    exact ⟨lim_cells (w := w) (kept hx HW1), e1⟩
  have HBE : Hid (S.now ≤ now → bey S.G l c u now = true → ∀ x, Below w1.heap.size w1 x → Calls Try.prog 26 #[.pointer (some ⟨b, 0, none⟩), lmv l, .string c, .int .i64 u, .int .i64 now] x fun e w' => e = .returned (.bool true) ∧ Below x.heap.size x w') := fun hn hb x hx => by
    have := beyond_any (h.below (keepB B1 hx)) l hl c hc u now hu2 ⟨by have := iv.n0; omega, hn1⟩
    rw [hb] at this
    exact this
  obtain ⟨⟨o0, o1, o2, o3⟩, k1⟩ := HKEEP.out w1 (Below.refl _ _)
  obtain ⟨s, n, t, v⟩ := l
  unfold lmv at *
  dsimp only at *
  clear h hl hc hu hn1 hu2 iv B1 HW1
  rcases hr with ⟨hn, rfl⟩ | ⟨hn, hb, rfl⟩
  · go_enter Try.func15, Try.ntmps15
    go_wp2_with fail
    refine (HAM.out _).mono ?_
    rintro e y ⟨rfl, rfl⟩
    go_wp2_with fail
    refine (HRI.out _).mono ?_
    rintro e y2 ⟨rfl, hy2⟩
    have HY2 : Hid (Below w.heap.size w y2) := keepB HB1.out hy2
    obtain ⟨⟨o0, o1, o2, o3⟩, k1⟩ := HKEEP.out y2 hy2
    clear hy2
    go_wp2_with fail
    go_ret
    exact ⟨rfl, HY2.out⟩
  · have HB2 := HBE.out hn hb
    have HBB : Hid (∀ x, Below w1.heap.size w1 x → Calls Try.prog 26 #[.pointer (some ⟨b, 0, none⟩), .agg #[.int .i64 s, .int .i64 n, .int .i64 t, .int .i64 v], .string c, .int .i64 u, .int .i64 now] x fun e w' => e = .returned (.bool true) ∧ Below x.heap.size x w') := HB2
    clear HBE HB2 hb
    go_enter Try.func15, Try.ntmps15
    go_wp2_with fail
    refine (HAM.out _).mono ?_
    rintro e y ⟨rfl, rfl⟩
    go_wp2_with fail
    refine (HRI.out _).mono ?_
    rintro e y2 ⟨rfl, hy2⟩
    have HY2 : Hid (Below y.heap.size y y2) := hy2
    obtain ⟨⟨o0, o1, o2, o3⟩, k1⟩ := HKEEP.out y2 hy2
    clear hy2
    go_wp2_with fail
    refine (HBB.out y2 HY2.out).mono ?_
    rintro e y3 ⟨rfl, hy3⟩
    have HY3 : Hid (Below w.heap.size w y3) := keepB HB1.out (keepB HY2.out hy3)
    clear hy3
    go_wp2_with fail
    go_ret
    exact ⟨rfl, HY3.out⟩
set_option maxRecDepth 100000 in
set_option maxHeartbeats 1600000 in
theorem used_ok {w : World} {base b : Nat} {S : St} {m : Nat} (h : Bk w base b S m) (l : Lm) (hl : isR l = true) (c : ByteArray) (hc : c.size ≤ 1000000) (now : Int) (hn : 0 ≤ now ∧ now ≤ 9223372036854775807) : Calls Try.prog 14 #[.pointer (some ⟨b, 0, none⟩), lmv l, .string c, .int .i64 now] w fun e w' => e = .returned (.tuple #[.int .i64 (cnt S.G c (now - l.window + 1)), .int .i64 (smm S.G c (now - l.window + 1))]) ∧ Below w.heap.size w w' := by
  obtain ⟨-, -, -, l4, l5⟩ := isR_parts hl
  obtain ⟨w1, hw1⟩ : ∃ w1, w.alloc (.cells #[.int .i64 l.single, .int .i64 l.count, .int .i64 l.sum, .int .i64 l.window] 36) = w1 := ⟨_, rfl⟩
  have B1 : Below w.heap.size w w1 := hw1 ▸ below_one _ _
  have HW1 : w1.heap[w.heap.size]? = some (.cells #[.int .i64 l.single, .int .i64 l.count, .int .i64 l.sum, .int .i64 l.window] 36) := hw1 ▸ h1_0 _ _
  have HB1 : Hid (Below w.heap.size w w1) := B1
  have HRI : Hid (∀ y, Calls Try.prog 23 #[lmv l] y fun e w' => e = .returned (.bool true) ∧ Below y.heap.size y w') := fun y => by have := isRight_any l y; rw [hl] at this; exact this
  have HU : Hid (∀ x, Below w1.heap.size w1 x → x.cell? ⟨w.heap.size, 3, none⟩ = some (.int .i64 l.window) ∧ Hid (Calls Try.prog 24 #[.pointer (some ⟨b, 0, none⟩), .string c, .int .i64 l.window, .int .i64 now] x fun e w' => e = .returned (.tuple #[.int .i64 (cnt S.G c (now - l.window + 1)), .int .i64 (smm S.G c (now - l.window + 1))]) ∧ Below x.heap.size x w')) := fun x hx => ⟨(lim_cells (w := w) (kept hx HW1)).2.2.2, used_any (h.below (keepB B1 hx)) c hc l.window now ⟨l4, l5⟩ hn⟩
  obtain ⟨o0, o1, o2, o3⟩ := lim_cells (w := w) HW1
  generalize cnt S.G c (now - l.window + 1) = X at *
  generalize smm S.G c (now - l.window + 1) = Y at *
  obtain ⟨s, n, t, v⟩ := l
  obtain ⟨n0, n1⟩ := hn
  unfold lmv at *
  dsimp only at *
  clear h hl hc B1 HW1 l4 l5
  go_enter Try.func14, Try.ntmps14
  go_wp2_with fail
  refine (HRI.out _).mono ?_
  rintro e y2 ⟨rfl, hy2⟩
  obtain ⟨k3, HU2⟩ := HU.out y2 hy2
  have HY2 : Hid (Below w.heap.size w y2) := keepB HB1.out hy2
  clear hy2
  go_wp2_with fail
  refine HU2.out.mono ?_
  rintro e y3 ⟨rfl, hy3⟩
  have HY3 : Hid (Below w.heap.size w y3) := keepB HY2.out hy3
  clear hy3
  go_wp2_with fail
  go_ret2
  exact ⟨rfl, HY3.out⟩
theorem mk_cards (w : World) : (Instr.makeMap tMC none).run Try.prog w = .ok (.map (some w.heap.size)) (w.alloc (.map #[] 0)) := by kernel_rfl
set_option maxRecDepth 100000 in
set_option maxHeartbeats 1600000 in
theorem new_any (n : Int) (hn : 1 ≤ n ∧ n ≤ 10000) (w : World) : Calls Try.prog 8 #[.int .i64 n] w fun e w' => ∃ b, e = .returned (.tuple #[.pointer (some ⟨b, 0, none⟩), .int .i64 0]) ∧ Bk w' w.heap.size b ⟨n, 0, 0, []⟩ 0 ∧ Below w.heap.size w w' := by
  have HW : Hid (∀ y, Calls Try.prog 18 #[.int .i64 n, .int .i64 1, .int .i64 10000] y fun e w' => e = .returned (.bool true) ∧ w' = y) := fun y => by have := within_any n 1 10000 y; rw [decide_eq_true hn] at this; exact this
  have HBK : Hid (Bk ((w.alloc (.map #[] 0)).alloc (.cells (bcs n 0 0 w.heap.size (.slice none 0 0)) tB)) w.heap.size (w.heap.size + 1) ⟨n, 0, 0, []⟩ 0 ∧ Below w.heap.size w ((w.alloc (.map #[] 0)).alloc (.cells (bcs n 0 0 w.heap.size (.slice none 0 0)) tB))) := by
    refine ⟨⟨w.heap.size, 0, .map [], .slice none 0 0, [], ⟨⟨h2_1 _ _ _, rfl, World.ownsRow_nil _ _ _ _, fun i hi => (by cases hi), List.Pairwise.nil, by omega, fun a ha => (by cases ha), by simp; omega, by simp⟩, fun a ha => (by cases ha), List.Pairwise.nil, (World.ownsMap_made w Try.prog tStr heldP).alloc _, fun a ha => (by cases ha), Nat.le_refl _, ⟨Maps.tidy_empty, fun l => ⟨fun h => (by cases h), fun ⟨a, ha, _⟩ => (by cases ha)⟩, fun a ha => (by cases ha), rfl, List.Pairwise.nil⟩, by simp⟩, ⟨fun a ha => (by cases ha), fun a ha => (by cases ha), fun a ha => (by cases ha), fun a ha => (by cases ha)⟩, fun e e1 e2 => by simp at e2, rfl, ⟨hn.1, hn.2, Int.le_refl _, by simp, Int.le_refl _, by simp, fun g hg => (by cases hg), List.Pairwise.nil, fun g hg => (by cases hg), List.Pairwise.nil, fun g hg => (by cases hg)⟩⟩, below_two _ _ _⟩
  unfold bcs at HBK
  have hmk := mk_cards w
  clear hn
  go_enter Try.func8, Try.ntmps8
  go_wp2_with fail
  refine (HW.out _).mono ?_
  rintro e y ⟨rfl, rfl⟩
  go_wp2_with fail
  go_ret2
  exact ⟨_, rfl, HBK.out⟩
end Go.Proofs.Ytmaikkhemhonhaa.Eg
