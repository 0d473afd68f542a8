/- The chapter's examples. -/
import Derived.Test.YtmaikkhemhonhaaEf
import Derived.Test.YtmaikkhemhonhaaEg
namespace Go.Proofs.Ytmaikkhemhonhaa.Eh
set_option linter.unusedVariables false
set_option linter.unusedSimpArgs false
open Go.RowKit Go.Maps Lib0 Kb Xp Da Db Dc Dd De Df Dh Di Dj Dk Dl Dm Dn Dp Dq Dr Ds Dt Du Dv Dw Dy Dz Ea Eb Ec Ed Ee Ef Eg
attribute [local go_sem] Oper.semAt_some
abbrev tLi : TypeId := 36
/-- a book and limits beside it -/
structure KN (w0 : World) (b lb : Nat) (l : Lm) (S : St) (m : Nat) (y : World) : Prop where
  bk : Bk y w0.heap.size b S m
  li : y.heap[lb]? = some (.cells #[.int .i64 l.single, .int .i64 l.count, .int .i64 l.sum, .int .i64 l.window] tLi)
  bel : Below w0.heap.size w0 y
theorem KN.below {w0 y z : World} {b lb : Nat} {l : Lm} {S : St} {m : Nat} (h : KN w0 b lb l S m y) (k : Below y.heap.size y z) : KN w0 b lb l S m z := ⟨h.bk.below k, kept k h.li, keepB h.bel k⟩
theorem KN.pb {w0 y z : World} {b lb : Nat} {l : Lm} {S S' : St} {m m' : Nat} (h : KN w0 b lb l S m y) (k : PB y w0.heap.size b S' m' z) : KN w0 b lb l S' m' z := ⟨k.1, k.2.1.block _ _ _ _ h.li (by decide), h.bel.trans k.2.2⟩
theorem KN.cells {w0 y : World} {b lb : Nat} {l : Lm} {S : St} {m : Nat} (h : KN w0 b lb l S m y) : y.cell? ⟨lb, 0, none⟩ = some (.int .i64 l.single) ∧ y.cell? ⟨lb, 1, none⟩ = some (.int .i64 l.count) ∧ y.cell? ⟨lb, 2, none⟩ = some (.int .i64 l.sum) ∧ y.cell? ⟨lb, 3, none⟩ = some (.int .i64 l.window) := lim_cells (w := y) h.li
theorem KN.ask {w0 y : World} {b lb : Nat} {l : Lm} {S : St} {m : Nat} (h : KN w0 b lb l S m y) (hl : isR l = true) (c : ByteArray) (hc : c.size ≤ 1000000) (hce : c.toList.isEmpty = false) (u now : Int) (hu : isA u = true) (hn : S.now ≤ now) (hn1 : now ≤ 9223372036854775807) (hb : bey S.G l c u now = false) (hg : S.gv < 900) (hm : (m : Int) + 1 ≤ S.most) : Calls Try.prog 15 #[.pointer (some ⟨b, 0, none⟩), lmv l, .string c, .int .i64 u, .int .i64 now] y fun e z => e = .returned (.int .i64 0) ∧ KN w0 b lb l (giveS (nowS S now) c u) (mOf S c m) z := by
  refine (ask_any h.bk l hl c hc hce u now hu hn hn1 hb hg (by have := h.bk.iv.m1; omega)).mono ?_
  rintro e z ⟨rfl, hz⟩
  have hle : (mOf S c m : Int) ≤ S.most := by unfold mOf; split <;> omega
  rcases hz with ⟨-, hz⟩ | ⟨hlt, -⟩
  · exact ⟨rfl, h.pb hz⟩
  · omega
theorem KN.no {w0 y : World} {b lb : Nat} {l : Lm} {S : St} {m : Nat} (h : KN w0 b lb l S m y) (hl : isR l = true) (c : ByteArray) (hc : c.size ≤ 1000000) (hce : c.toList.isEmpty = false) (u now : Int) (hu : isA u = true) (hn1 : now ≤ 9223372036854775807) (r : Int) (hr : (now < S.now ∧ r = 1) ∨ (S.now ≤ now ∧ bey S.G l c u now = true ∧ r = 210)) : Calls Try.prog 15 #[.pointer (some ⟨b, 0, none⟩), lmv l, .string c, .int .i64 u, .int .i64 now] y fun e z => e = .returned (.int .i64 r) ∧ KN w0 b lb l S m z := by
  refine (ask_no h.bk l hl c hc hce u now hu hn1 r hr).mono ?_
  rintro e z ⟨rfl, hz⟩
  exact ⟨rfl, h.below hz⟩
theorem KN.used {w0 y : World} {b lb : Nat} {l : Lm} {S : St} {m : Nat} (h : KN w0 b lb l S m y) (hl : isR l = true) (c : ByteArray) (hc : c.size ≤ 1000000) (now : Int) (hn : 0 ≤ now ∧ now ≤ 9223372036854775807) : Calls Try.prog 14 #[.pointer (some ⟨b, 0, none⟩), lmv l, .string c, .int .i64 now] y fun e z => e = .returned (.tuple #[.int .i64 (cnt S.G c (now - l.window + 1)), .int .i64 (smm S.G c (now - l.window + 1))]) ∧ KN w0 b lb l S m z := by
  refine (used_ok h.bk l hl c hc now hn).mono ?_
  rintro e z ⟨rfl, hz⟩
  exact ⟨rfl, h.below hz⟩
def cK : ByteArray := ⟨#[99, 97, 114, 100]⟩
def lK : Lm := ⟨100, 2, 150, 10⟩
def K0 : St := ⟨3, 0, 0, []⟩
def K1 : St := ⟨3, 0, 1, [(cK, (1, 100, 0))]⟩
def K2 : St := ⟨3, 1, 2, [(cK, (1, 100, 0)), (cK, (2, 50, 1))]⟩
def K3 : St := ⟨3, 10, 3, [(cK, (1, 100, 0)), (cK, (2, 50, 1)), (cK, (3, 0, 10))]⟩
def K4 : St := ⟨3, 10, 3, [(cK, (1, 100, 0)), (cK, (3, 0, 10))]⟩
theorem hce : cK.toList.isEmpty = false := by rw [ByteArray.toList_eq]; decide
theorem hlK : isR lK = true := by decide
set_option maxRecDepth 100000 in
set_option maxHeartbeats 3200000 in
theorem known_any (w : World) : Calls Try.prog 7 #[] w fun e w' => e = .returned (.bool true) ∧ Below w.heap.size w w' := by
  have HNEW : Hid (Calls Try.prog 8 #[.int .i64 3] w fun e w' => ∃ b, e = .returned (.tuple #[.pointer (some ⟨b, 0, none⟩), .int .i64 0]) ∧ Bk w' w.heap.size b K0 0 ∧ Below w.heap.size w w') := new_any 3 (by omega) w
  have hcs : cK.size ≤ 1000000 := by decide
  have A1 : Hid (∀ b lb y, KN w b lb lK K0 0 y → Calls Try.prog 15 #[.pointer (some ⟨b, 0, none⟩), .agg #[.int .i64 100, .int .i64 2, .int .i64 150, .int .i64 10], .string ⟨#[99, 97, 114, 100]⟩, .int .i64 100, .int .i64 0] y fun e z => e = .returned (.int .i64 0) ∧ KN w b lb lK K1 1 z) := fun b lb y h => h.ask hlK cK hcs hce 100 0 (by decide) (by decide) (by decide) (by decide) (by decide) (by decide)
  have A2 : Hid (∀ b lb y, KN w b lb lK K1 1 y → Calls Try.prog 15 #[.pointer (some ⟨b, 0, none⟩), .agg #[.int .i64 100, .int .i64 2, .int .i64 150, .int .i64 10], .string ⟨#[99, 97, 114, 100]⟩, .int .i64 60, .int .i64 1] y fun e z => e = .returned (.int .i64 210) ∧ KN w b lb lK K1 1 z) := fun b lb y h => h.no hlK cK hcs hce 60 1 (by decide) (by decide) 210 (.inr ⟨by decide, by decide, rfl⟩)
  have A3 : Hid (∀ b lb y, KN w b lb lK K1 1 y → Calls Try.prog 15 #[.pointer (some ⟨b, 0, none⟩), .agg #[.int .i64 100, .int .i64 2, .int .i64 150, .int .i64 10], .string ⟨#[99, 97, 114, 100]⟩, .int .i64 50, .int .i64 1] y fun e z => e = .returned (.int .i64 0) ∧ KN w b lb lK K2 1 z) := fun b lb y h => h.ask hlK cK hcs hce 50 1 (by decide) (by decide) (by decide) (by decide) (by decide) (by decide)
  have A4 : Hid (∀ b lb y, KN w b lb lK K2 1 y → Calls Try.prog 15 #[.pointer (some ⟨b, 0, none⟩), .agg #[.int .i64 100, .int .i64 2, .int .i64 150, .int .i64 10], .string ⟨#[99, 97, 114, 100]⟩, .int .i64 0, .int .i64 5] y fun e z => e = .returned (.int .i64 210) ∧ KN w b lb lK K2 1 z) := fun b lb y h => h.no hlK cK hcs hce 0 5 (by decide) (by decide) 210 (.inr ⟨by decide, by decide, rfl⟩)
  have A5 : Hid (∀ b lb y, KN w b lb lK K2 1 y → Calls Try.prog 15 #[.pointer (some ⟨b, 0, none⟩), .agg #[.int .i64 100, .int .i64 2, .int .i64 150, .int .i64 10], .string ⟨#[99, 97, 114, 100]⟩, .int .i64 0, .int .i64 10] y fun e z => e = .returned (.int .i64 0) ∧ KN w b lb lK K3 1 z) := fun b lb y h => h.ask hlK cK hcs hce 0 10 (by decide) (by decide) (by decide) (by decide) (by decide) (by decide)
  have U3 : Hid (∀ b lb y, KN w b lb lK K3 1 y → Calls Try.prog 14 #[.pointer (some ⟨b, 0, none⟩), .agg #[.int .i64 100, .int .i64 2, .int .i64 150, .int .i64 10], .string ⟨#[99, 97, 114, 100]⟩, .int .i64 10] y fun e z => e = .returned (.tuple #[.int .i64 2, .int .i64 50]) ∧ KN w b lb lK K3 1 z) := fun b lb y h => by
    have e1 : cnt K3.G cK (10 - lK.window + 1) = 2 := by decide
    have e2 : smm K3.G cK (10 - lK.window + 1) = 50 := by decide
    have := h.used hlK cK hcs 10 (by omega)
    rw [e1, e2] at this
    exact this
  have UN : Hid (∀ b lb y, KN w b lb lK K3 1 y → Calls Try.prog 17 #[.pointer (some ⟨b, 0, none⟩), .string ⟨#[99, 97, 114, 100]⟩, .int .i64 50, .int .i64 1] y fun e z => e = .returned (.bool true) ∧ KN w b lb lK K4 1 z) := fun b lb y h => by
    have el : lc K3.G cK = [(1, 100, 0), (2, 50, 1), (3, 0, 10)] := by decide
    have hF : Fst (lc K3.G cK) 50 1 1 := by
      rw [el]
      refine ⟨by decide, ⟨rfl, rfl⟩, fun j hj hlt => ?_⟩
      obtain rfl := Nat.lt_one_iff.1 hlt
      rintro ⟨h1, -⟩
      simp at h1
    refine (undo_mid h.bk cK hcs 50 1 1 hF (by rw [el]; decide)).mono ?_
    rintro e z ⟨rfl, hz⟩
    have eg : rmG K3.G cK 1 = K4.G := by decide
    have er : rmS K3 cK 1 = K4 := by unfold rmS; rw [eg]; rfl
    rw [er] at hz
    exact ⟨rfl, h.pb hz⟩
  have U4 : Hid (∀ b lb y, KN w b lb lK K4 1 y → Calls Try.prog 14 #[.pointer (some ⟨b, 0, none⟩), .agg #[.int .i64 100, .int .i64 2, .int .i64 150, .int .i64 10], .string ⟨#[99, 97, 114, 100]⟩, .int .i64 10] y fun e z => e = .returned (.tuple #[.int .i64 1, .int .i64 0]) ∧ KN w b lb lK K4 1 z) := fun b lb y h => by
    have e1 : cnt K4.G cK (10 - lK.window + 1) = 1 := by decide
    have e2 : smm K4.G cK (10 - lK.window + 1) = 0 := by decide
    have := h.used hlK cK hcs 10 (by omega)
    rw [e1, e2] at this
    exact this
  have A6 : Hid (∀ b lb y, KN w b lb lK K4 1 y → Calls Try.prog 15 #[.pointer (some ⟨b, 0, none⟩), .agg #[.int .i64 100, .int .i64 2, .int .i64 150, .int .i64 10], .string ⟨#[99, 97, 114, 100]⟩, .int .i64 1, .int .i64 9] y fun e z => e = .returned (.int .i64 1) ∧ KN w b lb lK K4 1 z) := fun b lb y h => h.no hlK cK hcs hce 1 9 (by decide) (by decide) 1 (.inl ⟨by decide, rfl⟩)
  have HCE : Hid (∀ b lb S y, KN w b lb lK S 1 y → y.cell? ⟨lb, 0, none⟩ = some (.int .i64 100) ∧ y.cell? ⟨lb, 1, none⟩ = some (.int .i64 2) ∧ y.cell? ⟨lb, 2, none⟩ = some (.int .i64 150) ∧ y.cell? ⟨lb, 3, none⟩ = some (.int .i64 10)) := fun b lb S y h => h.cells
  go_enter Try.func7, Try.ntmps7
  go_wp2_with fail
  refine HNEW.out.mono ?_
  rintro e y ⟨b, rfl, hb, hB⟩
  have HS : Hid (KN w b y.heap.size lK K0 0 (y.alloc (.cells #[.int .i64 100, .int .i64 2, .int .i64 150, .int .i64 10] tLi))) := ⟨hb.below (below_one _ _), h1_0 _ _, keepB hB (below_one _ _)⟩
  clear hb hB hcs
  go_wp2_with fail
  refine (A1.out _ _ _ HS.out).mono ?_
  rintro e y1 ⟨rfl, h1⟩
  obtain ⟨c0, c1, c2, c3⟩ := HCE.out _ _ _ _ h1
  have H1 : Hid (KN w b y.heap.size lK K1 1 y1) := h1
  clear h1
  go_wp2_with fail
  refine (A2.out _ _ _ H1.out).mono ?_
  rintro e y2 ⟨rfl, h1⟩
  obtain ⟨c0, c1, c2, c3⟩ := HCE.out _ _ _ _ h1
  have H2 : Hid (KN w b y.heap.size lK K1 1 y2) := h1
  clear h1
  go_wp2_with fail
  refine (A3.out _ _ _ H2.out).mono ?_
  rintro e y3 ⟨rfl, h1⟩
  obtain ⟨c0, c1, c2, c3⟩ := HCE.out _ _ _ _ h1
  have H3 : Hid (KN w b y.heap.size lK K2 1 y3) := h1
  clear h1
  go_wp2_with fail
  refine (A4.out _ _ _ H3.out).mono ?_
  rintro e y4 ⟨rfl, h1⟩
  obtain ⟨c0, c1, c2, c3⟩ := HCE.out _ _ _ _ h1
  have H4 : Hid (KN w b y.heap.size lK K2 1 y4) := h1
  clear h1
  go_wp2_with fail
  refine (A5.out _ _ _ H4.out).mono ?_
  rintro e y5 ⟨rfl, h1⟩
  obtain ⟨c0, c1, c2, c3⟩ := HCE.out _ _ _ _ h1
  have H5 : Hid (KN w b y.heap.size lK K3 1 y5) := h1
  clear h1
  go_wp2_with fail
  refine (U3.out _ _ _ H5.out).mono ?_
  rintro e y6 ⟨rfl, h1⟩
  have H6 : Hid (KN w b y.heap.size lK K3 1 y6) := h1
  clear h1
  go_wp2_with fail
  refine (UN.out _ _ _ H6.out).mono ?_
  rintro e y7 ⟨rfl, h1⟩
  obtain ⟨c0, c1, c2, c3⟩ := HCE.out _ _ _ _ h1
  have H7 : Hid (KN w b y.heap.size lK K4 1 y7) := h1
  clear h1
  go_wp2_with fail
  refine (U4.out _ _ _ H7.out).mono ?_
  rintro e y8 ⟨rfl, h1⟩
  obtain ⟨c0, c1, c2, c3⟩ := HCE.out _ _ _ _ h1
  have H8 : Hid (KN w b y.heap.size lK K4 1 y8) := h1
  clear h1
  go_wp2_with fail
  refine (A6.out _ _ _ H8.out).mono ?_
  rintro e y9 ⟨rfl, h1⟩
  have H9 : Hid (KN w b y.heap.size lK K4 1 y9) := h1
  clear h1
  go_wp2_with fail
  go_ret
  exact ⟨rfl, H9.out.bel⟩
end Go.Proofs.Ytmaikkhemhonhaa.Eh
