/- isBeyond; the now of a book. -/
import Derived.Test.YtmaikkhemhonhaaDr
namespace Go.Proofs.Ytmaikkhemhonhaa.Dw
set_option linter.unusedVariables false
set_option linter.unusedSimpArgs false
open Go.RowKit Go.Maps Lib0 Kb Xp Da Db Dc Dd De Df Dh Di Dj Dk Dl Dm Dn Dp Dq Dr
attribute [local go_sem] Oper.semAt_some
def cnt (G : List Ga) (c : ByteArray) (t : Int) : Int := ((la (lc G c) t).length : Int)
def smm (G : List Ga) (c : ByteArray) (t : Int) : Int := uS (la (lc G c) t)
def bey (G : List Ga) (l : Lm) (c : ByteArray) (u now : Int) : Bool := decide (l.single < u) || decide (l.count ≤ cnt G c (now - l.window + 1)) || decide (l.sum < smm G c (now - l.window + 1) + u)
theorem isR_parts {l : Lm} (h : isR l = true) : (0 ≤ l.single ∧ l.single ≤ 999999999999) ∧ (0 ≤ l.count ∧ l.count ≤ 999999999999) ∧ (0 ≤ l.sum ∧ l.sum ≤ 999999999999) ∧ 1 ≤ l.window ∧ l.window ≤ 100000 := by
  simp only [isR, isA, Bool.and_eq_true, decide_eq_true_eq] at h
  exact ⟨h.1.1.1, h.1.1.2, h.1.2, h.2⟩
set_option maxRecDepth 100000 in
set_option maxHeartbeats 1600000 in
theorem beyond_any {w : World} {base b : Nat} {S : St} {m : Nat} (h : Bk w base b S m) (l : Lm) (hl : isR l = true) (c : ByteArray) (hc : c.size ≤ 1000000) (u now : Int) (hu : 0 ≤ u ∧ u ≤ 999999999999) (hn : 0 ≤ now ∧ now ≤ 9223372036854775807) : Calls Try.prog 26 #[.pointer (some ⟨b, 0, none⟩), lmv l, .string c, .int .i64 u, .int .i64 now] w fun e w' => e = .returned (.bool (bey S.G l c u now)) ∧ Below w.heap.size w w' := by
  obtain ⟨l1, l2, l3, l4, l5⟩ := isR_parts hl
  obtain ⟨w1, hw1⟩ : ∃ w1, w.alloc (.cells #[.int .i64 l.single, .int .i64 l.count, .int .i64 l.sum, .int .i64 l.window] 36) = w1 := ⟨_, rfl⟩
  have B1 : Below w.heap.size w w1 := hw1 ▸ below_one _ _
  have HW1 : w1.heap[w.heap.size]? = some (.cells #[.int .i64 l.single, .int .i64 l.count, .int .i64 l.sum, .int .i64 l.window] 36) := hw1 ▸ h1_0 _ _
  have HU : Hid (Calls Try.prog 24 #[.pointer (some ⟨b, 0, none⟩), .string c, .int .i64 l.window, .int .i64 now] w1 fun e w' => e = .returned (.tuple #[.int .i64 (cnt S.G c (now - l.window + 1)), .int .i64 (smm S.G c (now - l.window + 1))]) ∧ Below w1.heap.size w1 w') := used_any (h.below B1) c hc l.window now ⟨l4, l5⟩ hn
  have hsm : 0 ≤ smm S.G c (now - l.window + 1) ∧ smm S.G c (now - l.window + 1) ≤ 999999999999 * 1000 := by
    obtain ⟨cm, cn, D, av, A, h1, h2, h3, h4, h5⟩ := h
    have ha : Am (la (lc S.G c) (now - l.window + 1)) := fun x hx => by
      have hx2 := (List.mem_filter.1 hx).1
      unfold lc at hx2
      obtain ⟨g, hg, rfl⟩ := List.mem_map.1 hx2
      have hg2 := (List.mem_filter.1 hg).1
      have k1 := h5.am g hg2
      have k2 := h5.tk g hg2
      have k3 := h5.nb g hg2
      have := h5.n1
      have := h5.g1
      exact ⟨k1.1, k1.2, ⟨by omega, by omega⟩, ⟨by omega, by omega⟩⟩
    by_cases hex : ∃ a ∈ A, a.card = c
    · obtain ⟨a, haA, rfl⟩ := hex
      have hs := ha.sum
      have hlen : (la (lc S.G a.card) (now - l.window + 1)).length ≤ 999 := by
        rw [← h2.eq a haA]
        exact Nat.le_trans (List.length_filter_le _ _) (h1.rb a haA).len
      exact ⟨hs.1, by have := hs.2; unfold smm; omega⟩
    · have e0 : lc S.G c = [] := by
        unfold lc
        rw [List.map_eq_nil_iff, List.filter_eq_nil_iff]
        intro g hg hd
        obtain ⟨a, ha, e⟩ := h2.all g hg
        exact hex ⟨a, ha, e.trans (of_decide_eq_true hd)⟩
      unfold smm
      rw [e0]
      exact ⟨Int.le_refl _, by simp [la, uS]⟩
  have HK : Hid (∀ x, Below w1.heap.size w1 x → x.cell? ⟨w.heap.size, 0, none⟩ = some (.int .i64 l.single) ∧ x.cell? ⟨w.heap.size, 1, none⟩ = some (.int .i64 l.count) ∧ x.cell? ⟨w.heap.size, 2, none⟩ = some (.int .i64 l.sum) ∧ x.cell? ⟨w.heap.size, 3, none⟩ = some (.int .i64 l.window) ∧ Below w.heap.size w x) := fun x hx => by
    have := kept hx HW1
    exact ⟨by simp [World.cell?, this], by simp [World.cell?, this], by simp [World.cell?, this], by simp [World.cell?, this], keepB B1 hx⟩
  obtain ⟨-, -, -, k3, -⟩ := HK.out w1 (Below.refl _ _)
  have HB : Hid (bey S.G l c u now = (decide (l.single < u) || decide (l.count ≤ cnt S.G c (now - l.window + 1)) || decide (l.sum < smm S.G c (now - l.window + 1) + u))) := rfl
  rw [HB.out]
  generalize cnt S.G c (now - l.window + 1) = X at *
  generalize smm S.G c (now - l.window + 1) = Y at *
  unfold lmv
  obtain ⟨s, n, t, v⟩ := l
  dsimp only at *
  obtain ⟨y0, y1⟩ := hsm
  obtain ⟨u0, u1⟩ := hu
  have q1 : Y + u ≤ 9223372036854775807 := by omega
  have q2 : -9223372036854775808 ≤ Y + u := by omega
  clear h hl hc hn B1 HW1 HB l1 l2 l3 l4 l5 y0 y1 u0 u1
  go_enter Try.func26, Try.ntmps26
  go_wp2_with fail
  refine HU.out.mono ?_
  rintro e x ⟨rfl, hx⟩
  obtain ⟨e0, e1, e2, e3, e4⟩ := HK.out x hx
  have HE4 : Hid (Below w.heap.size w x) := e4
  clear hx e4 k3
  by_cases h1 : s < u
  · go_wp2_with fail
    go_ret
    exact ⟨by simp [h1], HE4.out⟩
  · by_cases h2 : n ≤ X
    · go_wp2_with fail
      go_ret
      exact ⟨by simp [h1, h2], HE4.out⟩
    · by_cases h3 : t < Y + u
      · go_wp2_with fail
        go_ret
        exact ⟨by simp [h1, h2, h3], HE4.out⟩
      · go_wp2_with fail
        go_ret
        exact ⟨by simp [h1, h2, h3], HE4.out⟩
end Go.Proofs.Ytmaikkhemhonhaa.Dw
