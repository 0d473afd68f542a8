/- Sessions: the program's functions. -/
import Derived.Test.YthfpjkboglbcaaaSp
import Derived.Test.YthfpjkboglbcaaaShelf
import Derived.BigQuiet
namespace Go.Proofs.Ythfpjkboglbcaaa.Sa
set_option linter.unusedVariables false
set_option linter.unusedSimpArgs false
open Go.RowKit Lib0 Kb Sp
theorem state_any {w : World} {g : Nat} {S : Ss} (M : Sm 63 w g S) :
    Calls Try.prog 13 #[.pointer (some ⟨g, 0, none⟩)] w fun e w' => e = .returned (.int .i64 S.st) ∧ w' = w := by
  have c3 : w.cell? ⟨g, 3, none⟩ = some (.int .i64 S.st) := M.ce 3
  go_enter Try.func13, Try.ntmps13
  go_wp2
  go_ret
  exact ⟨rfl, rfl⟩
theorem ready_any {w : World} {g : Nat} {S : Ss} (M : Sm 63 w g S) :
    Calls Try.prog 15 #[.pointer (some ⟨g, 0, none⟩)] w fun e w' => e = .returned (.bool (decide (S.st = 3 ∨ S.st = 4))) ∧ w' = w := by
  have c3 : w.cell? ⟨g, 3, none⟩ = some (.int .i64 S.st) := M.ce 3
  generalize S.st = st at *
  go_enter Try.func15, Try.ntmps15
  go_wp2_with fail
  all_goals
    go_ret
    refine ⟨?_, rfl⟩
    rename_i h
    by_cases h4 : st = 4 <;> simp [h, h4]
theorem infoS : (Try.prog.info? 40).map (·.size) = some 3 := by kernel_rfl
theorem fin_say {fn : Func} {p : Tmp} (h : fn.results = #[.cell p 40]) (tm : Array Value) (x : World) (n : Nat) (a b c : Value) (hn : x.heap.size = n) (hp : tm.getD p undef = .pointer (some ⟨n, 0, none⟩)) {Q : Ending → World → Prop}
    (q : Q (.returned (.agg #[a, b, c])) (x.alloc (.cells #[a, b, c] 40))) : bodyPost Try.prog fn Q .ret ⟨tm, []⟩ (x.alloc (.cells #[a, b, c] 40)) := by
  subst hn
  exact bodyPost_ret (v := .agg #[a, b, c]) (results_cell_row (fn := fn) h _ _ x.heap.size 40 _ _ _ hp (Kb.h1_0 x _) Try.underlying40 rfl infoS) rfl q
theorem new_good {r e a : Int} (h : isS r e a = true) (w : World) : Calls Try.prog 9 #[.int .i64 r, .int .i64 e, .int .i64 a] w fun e' w' => e' = .returned (.tuple #[.pointer (some ⟨w.heap.size, 0, none⟩), .int .i64 0]) ∧ Sm 63 w' w.heap.size (fresh r e a) ∧ Below w.heap.size w w' := by
  simp [isS] at h
  obtain ⟨⟨⟨⟨h0, h1⟩, h2⟩, h3⟩, h4⟩ := h
  have k1 : ¬ e < 0 := by omega
  have k2 : ¬ 100000 < e := by omega
  have k3 : ¬ a < 1 := by omega
  have k4 : ¬ 100000 < a := by omega
  rcases h0 with rfl | rfl
  · go_enter Try.func9, Try.ntmps9
    go_wp2_with fail
    go_ret2
    exact ⟨rfl, Kb.h1_0 w _, Kb.below_one w _⟩
  · go_enter Try.func9, Try.ntmps9
    go_wp2_with fail
    go_ret2
    exact ⟨rfl, Kb.h1_0 w _, Kb.below_one w _⟩
theorem new_bad {r e a : Int} (h : isS r e a = false) (w : World) : Calls Try.prog 9 #[.int .i64 r, .int .i64 e, .int .i64 a] w fun e' w' => e' = .returned (.tuple #[.pointer none, .int .i64 1]) ∧ w' = w := by
  have hh : (¬ r = 1 ∧ ¬ r = 2) ∨ ((r = 1 ∨ r = 2) ∧ (e < 0 ∨ (0 ≤ e ∧ 100000 < e) ∨ (0 ≤ e ∧ e ≤ 100000 ∧ a < 1) ∨ (0 ≤ e ∧ e ≤ 100000 ∧ 1 ≤ a ∧ 100000 < a))) := by
    by_cases h0 : (r = 1 ∨ r = 2) ∧ 0 ≤ e ∧ e ≤ 100000 ∧ 1 ≤ a ∧ a ≤ 100000
    · exfalso; simp [isS] at h; omega
    · omega
  clear h
  rcases hh with ⟨h1, h2⟩ | ⟨rfl | rfl, hh⟩
  · have k1 : (r != 1) = true := by simpa using h1
    have k2 : (r != 2) = true := by simpa using h2
    go_enter Try.func9, Try.ntmps9
    go_wp2_with fail
    go_ret2
    exact ⟨rfl, rfl⟩
  · rcases hh with h1 | ⟨h0, h1⟩ | ⟨h0, h1, h2⟩ | ⟨h0, h1, h2, h3⟩
    · go_enter Try.func9, Try.ntmps9
      go_wp2_with fail
      go_ret2
      exact ⟨rfl, rfl⟩
    · go_enter Try.func9, Try.ntmps9
      go_wp2_with fail
      go_ret2
      exact ⟨rfl, rfl⟩
    · go_enter Try.func9, Try.ntmps9
      go_wp2_with fail
      go_ret2
      exact ⟨rfl, rfl⟩
    · go_enter Try.func9, Try.ntmps9
      go_wp2_with fail
      go_ret2
      exact ⟨rfl, rfl⟩
  · rcases hh with h1 | ⟨h0, h1⟩ | ⟨h0, h1, h2⟩ | ⟨h0, h1, h2, h3⟩
    · go_enter Try.func9, Try.ntmps9
      go_wp2_with fail
      go_ret2
      exact ⟨rfl, rfl⟩
    · go_enter Try.func9, Try.ntmps9
      go_wp2_with fail
      go_ret2
      exact ⟨rfl, rfl⟩
    · go_enter Try.func9, Try.ntmps9
      go_wp2_with fail
      go_ret2
      exact ⟨rfl, rfl⟩
    · go_enter Try.func9, Try.ntmps9
      go_wp2_with fail
      go_ret2
      exact ⟨rfl, rfl⟩
theorem down_any {w : World} {g : Nat} {S : Ss} (M : Sm 63 w g S) :
    Calls Try.prog 30 #[.pointer (some ⟨g, 0, none⟩)] w fun e w' => e = .returned (.tuple #[]) ∧ Sm 63 w' g (down S) ∧ Fr [g] w w' := by
  have c3 : w.cell? ⟨g, 3, none⟩ = some (.int .i64 S.st) := M.ce 3
  have f3 := M.fz 3
  go_enter Try.func30, Try.ntmps30
  go_wp2
  go_end0
  exact ⟨rfl, M.set3 0, (Fr.refl _ _).set (.inl (by simp)) _ _⟩
theorem heard_any {w : World} {g : Nat} {S : Ss} (M : Sm 63 w g S) :
    Calls Try.prog 28 #[.pointer (some ⟨g, 0, none⟩)] w fun e w' => e = .returned (.tuple #[]) ∧ Sm 63 w' g (heard S) ∧ Fr [g] w w' := by
  obtain ⟨r, e, a, st, wa, qu, tr⟩ := S
  have c3 : w.cell? ⟨g, 3, none⟩ = some (.int .i64 st) := M.ce 3
  have c5 : w.cell? ⟨g, 5, none⟩ = some (.int .i64 qu) := M.ce 5
  have f5 := M.fz 5
  by_cases h : st = 3
  · subst h
    go_enter Try.func28, Try.ntmps28
    go_wp2_with fail
    go_end0
    exact ⟨rfl, M.set5 0, (Fr.refl _ _).set (.inl (by simp)) _ _⟩
  · have HE : heard ⟨r, e, a, st, wa, qu, tr⟩ = ⟨r, e, a, st, wa, qu, tr⟩ := if_neg h
    rw [HE]
    clear HE
    go_enter Try.func28, Try.ntmps28
    go_wp2_with fail
    go_end0
    exact ⟨rfl, M, Fr.refl _ _⟩
theorem ask_any {w : World} {g : Nat} {S : Ss} (M : Sm 63 w g S) (c : ByteArray) :
    Calls Try.prog 38 #[.pointer (some ⟨g, 0, none⟩), .string c] w fun e w' => e = .returned (sayV (asks c)) ∧ Sm 63 w' g { S with wait := 0 } ∧ Fr [g] w w' := by
  have lt := M.lt
  have M1 := M.alloc (Obj.cells #[Value.string ⟨#[]⟩, Value.string ⟨#[]⟩, Value.bool false] 40)
  have d4 : (w.alloc (Obj.cells #[Value.string ⟨#[]⟩, Value.string ⟨#[]⟩, Value.bool false] 40)).cell? ⟨g, 4, none⟩ = some (.int .i64 S.wait) := M1.ce 4
  have f4 := M1.fz 4
  have ne : w.heap.size ≠ g := by omega
  go_enter Try.func38, Try.ntmps38
  go_wp2_with fail
  exact fin_say rfl _ _ _ _ _ _ (by simp) rfl ⟨rfl, (M.set4 0).alloc _, ((Fr.refl _ _).set (.inl (by simp)) _ _).alloc _⟩
theorem fr_drewN {B : List Nat} {w x : World} (h : Fr B w x) (n : Nat) : Fr B w (x.drewN n) := by
  induction n with
  | zero => exact h
  | succ n ih => exact ih.drew
theorem sm_drewN {T : TypeId} {w : World} {g : Nat} {S : Ss} (M : Sm T w g S) (n : Nat) : Sm T (w.drewN n) g S := by
  induction n with
  | zero => exact M
  | succ n ih => exact ih.drew
theorem waits_any {w : World} {g : Nat} {S : Ss} (M : Sm 63 w g S) (h0 : 0 ≤ S.wait) (h1 : S.wait ≤ 100000) :
    Calls Try.prog 45 #[.pointer (some ⟨g, 0, none⟩)] w fun e w' => e = .returned (.bool (decide (S.wait + 1 < S.ans))) ∧ Sm 63 w' g { S with wait := S.wait + 1 } ∧ Fr [g] w w' := by
  obtain ⟨r, e, a, st, wa, qu, tr⟩ := S
  dsimp only at *
  have c2 : w.cell? ⟨g, 2, none⟩ = some (.int .i64 a) := M.ce 2
  have c4 : w.cell? ⟨g, 4, none⟩ = some (.int .i64 wa) := M.ce 4
  have f4 := M.fz 4
  go_enter Try.func45, Try.ntmps45
  go_wp2_with fail
  go_quiet (fail)
  go_wp2_with fail
  go_ret
  exact ⟨rfl, sm_drewN (M.set4 _) _, fr_drewN ((Fr.refl _ _).set (.inl (by simp)) _ _) _⟩
theorem tl {c : ByteArray} {l : List UInt8} (h : c.toList = l) : c = ⟨l.toArray⟩ := by
  rw [ByteArray.toList_eq] at h
  subst h
  cases c; simp
theorem codes (c : ByteArray) : c = t001 ∨ c = t002 ∨ c = t101 ∨ c = t301 ∨ (¬ c.toList = [48, 48, 49] ∧ ¬ c.toList = [48, 48, 50] ∧ ¬ c.toList = [49, 48, 49] ∧ ¬ c.toList = [51, 48, 49]) := by
  by_cases h1 : c.toList = [48, 48, 49]
  · exact .inl (tl h1)
  by_cases h2 : c.toList = [48, 48, 50]
  · exact .inr (.inl (tl h2))
  by_cases h3 : c.toList = [49, 48, 49]
  · exact .inr (.inr (.inl (tl h3)))
  by_cases h4 : c.toList = [51, 48, 49]
  · exact .inr (.inr (.inr (.inl (tl h4))))
  exact .inr (.inr (.inr (.inr ⟨h1, h2, h3, h4⟩)))
theorem ne_code {c : ByteArray} {l : List UInt8} (h : ¬ c.toList = l) : c ≠ ⟨l.toArray⟩ := by
  rintro rfl
  exact h (by rw [ByteArray.toList_eq])
theorem t_ne : t001 ≠ t002 ∧ t001 ≠ t101 ∧ t001 ≠ t301 ∧ t002 ≠ t001 ∧ t101 ≠ t001 ∧ t101 ≠ t002 ∧ t301 ≠ t001 ∧ t301 ≠ t002 := by decide
theorem grant_any {w : World} {g : Nat} {S : Ss} (M : Sm 63 w g S) (c : ByteArray) :
    Calls Try.prog 36 #[.pointer (some ⟨g, 0, none⟩), .string c] w fun e w' => e = .returned (.string (grant2 S c)) ∧ Sm 63 w' g (grant1 S c) ∧ Fr [g] w w' := by
  obtain ⟨r, e, a, st, wa, qu, tr⟩ := S
  have c0 : w.cell? ⟨g, 0, none⟩ = some (.int .i64 r) := M.ce 0
  have c3 : w.cell? ⟨g, 3, none⟩ = some (.int .i64 st) := M.ce 3
  have f3 := M.fz 3
  obtain ⟨G1, hG1⟩ : ∃ G1, Hid (grant1 ⟨r, e, a, st, wa, qu, tr⟩ c = G1) := ⟨_, rfl⟩
  obtain ⟨G2, hG2⟩ : ∃ G2, Hid (grant2 ⟨r, e, a, st, wa, qu, tr⟩ c = G2) := ⟨_, rfl⟩
  rw [hG1.out, hG2.out]
  rcases codes c with rfl | rfl | rfl | rfl | ⟨h1, h2, h3, h4⟩
  · unfold t001
    by_cases hr : r = 1
    · subst hr
      go_enter Try.func36, Try.ntmps36
      go_wp2_with fail
      go_ret
      exact ⟨by rw [← hG2.out]; rfl, by rw [← hG1.out]; exact M.set3 3, (Fr.refl _ _).set (.inl (by simp)) _ _⟩
    · have hr2 : (r == 1) = false := by simpa using hr
      go_enter Try.func36, Try.ntmps36
      go_wp2_with fail
      go_ret
      exact ⟨by rw [← hG2.out]; simp [grant2, hr, t_ne]; rfl, by rw [← hG1.out]; simp [grant1, hr, t_ne]; exact M, Fr.refl _ _⟩
  · unfold t002
    go_enter Try.func36, Try.ntmps36
    go_wp2_with fail
    go_ret
    exact ⟨by rw [← hG2.out]; simp [grant2, t_ne]; rfl, by rw [← hG1.out]; simp [grant1, t_ne]; exact M.set3 1, (Fr.refl _ _).set (.inl (by simp)) _ _⟩
  · unfold t101
    go_enter Try.func36, Try.ntmps36
    go_wp2_with fail
    go_ret
    exact ⟨by rw [← hG2.out]; simp [grant2, t_ne]; rfl, by rw [← hG1.out]; simp [grant1, t_ne]; exact M, Fr.refl _ _⟩
  · unfold t301
    go_enter Try.func36, Try.ntmps36
    go_wp2_with fail
    go_ret
    exact ⟨by rw [← hG2.out]; simp [grant2, t_ne]; rfl, by rw [← hG1.out]; simp [grant1, t_ne]; exact M, Fr.refl _ _⟩
  · have n1 : c ≠ t001 := ne_code h1
    have n2 : c ≠ t002 := ne_code h2
    have n3 : c ≠ t101 := ne_code h3
    have n4 : c ≠ t301 := ne_code h4
    have b1 : (c.toList == [48, 48, 49]) = false := by simpa using h1
    have b2 : (c.toList == [48, 48, 50]) = false := by simpa using h2
    have b3 : (c.toList == [49, 48, 49]) = false := by simpa using h3
    have b4 : (c.toList == [51, 48, 49]) = false := by simpa using h4
    go_enter Try.func36, Try.ntmps36
    go_wp2_with fail
    go_ret
    exact ⟨by rw [← hG2.out]; simp [grant2, n1, n2, n3, n4]; rfl, by rw [← hG1.out]; simp [grant1, n1, n2]; exact M, Fr.refl _ _⟩
end Go.Proofs.Ythfpjkboglbcaaa.Sa
