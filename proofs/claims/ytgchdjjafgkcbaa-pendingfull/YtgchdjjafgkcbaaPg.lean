/- New; Add. -/
import Derived.Test.YtgchdjjafgkcbaaPf
namespace Go.Proofs.Ytgchdjjafgkcbaa.Pg
set_option linter.unusedVariables false
set_option linter.unusedSimpArgs false
open Go.RowKit Go.Maps Lib0 Kb Xp Za Ze Ih Fh Hh Pa Pb Pc Pe Pf
attribute [local go_sem] Oper.semAt_some
theorem new_yes (C : Cf) (h : Co C) (w : World) : Calls Try.prog 7 #[.int .i64 C.most, .int .i64 C.timeout, .int .i64 C.late] w fun e w' => ∃ b, e = .returned (.tuple #[.pointer (some ⟨b, 0, none⟩), .int .i64 0]) ∧ Tb w' w.heap.size b C S0 ∧ Below w.heap.size w w' := by
  have HI : Hid (∀ n m : Int, 1 ≤ n → n ≤ m → ∀ y, Calls Try.prog 20 #[.int .i64 n, .int .i64 m] y fun e w' => e = .returned (.bool true) ∧ w' = y) := fun n m h1 h2 y => by
    have := Pd.within_any n m y
    rwa [show (decide (1 ≤ n) && decide (n ≤ m)) = true by simp [h1, h2]] at this
  have HIV : Hid (Iv C S0) := iv0 h
  have H1 : Hid _ := HI.out C.most 10000 h.m0 h.m1
  have H2 : Hid _ := HI.out C.timeout 100000 h.t0 h.t1
  have H3 : Hid _ := HI.out C.late 100000 h.l0 h.l1
  obtain ⟨ms, tm, lt⟩ := C
  dsimp only at H1 H2 H3
  have hmm := @run_makeMap Try.prog
  clear h HI
  go_enter Try.func7, Try.ntmps7
  go_wp2_with fail
  refine (H1.out _).mono ?_
  rintro e y ⟨rfl, hy⟩
  rw [hy]
  clear hy y
  go_wp2_with fail
  refine (H2.out _).mono ?_
  rintro e y ⟨rfl, hy⟩
  rw [hy]
  clear hy y
  go_wp2_with fail
  refine (H3.out _).mono ?_
  rintro e y ⟨rfl, hy⟩
  rw [hy]
  clear hy y
  go_wp2_with fail
  refine (newTimers_any tm lt w).mono ?_
  rintro e y ⟨wb, rb, rfl, Bw, Br, h1, h2, h3, h4, h5, h6⟩
  have HN : Hid (Wl y wb Bw 256 [] 0 0 ∧ Wl y rb Br 256 [] 0 0 ∧ (∀ g, Bw g → ¬ Br g) ∧ (∀ g, Bw g → w.heap.size ≤ g) ∧ (∀ g, Br g → w.heap.size ≤ g) ∧ Below w.heap.size w y) := ⟨h1, h2, h3, h4, h5, h6⟩
  clear h1 h2 h3 h4 h5 h6
  go_wp2_with fail
  go_ret2
  obtain ⟨h1, h2, h3, h4, h5, h6⟩ := HN.out
  have h7 := h6.size
  have hB := below_three y (.map #[] 0) (.map #[] 0) (.cells #[.pointer (some ⟨wb, 0, none⟩), .pointer (some ⟨rb, 0, none⟩), .int .i64 tm, .int .i64 lt, .int .i64 0, .int .i64 ms, .map (some y.heap.size), .map (some (y.heap.size + 1))] tT)
  have k1 := World.ownsMap_made (H := Value) y Try.prog tK unitElem
  have k2 := World.ownsMap_made (H := Value) (y.alloc (.map #[] 0)) Try.prog tN Pc.heldE
  rw [World.size_alloc] at k2
  refine ⟨y.heap.size + 1 + 1, rfl, ⟨⟨wb, rb, y.heap.size, y.heap.size + 1, Bw, Br, 0, 0, .map [], .map [], ⟨h3_2 _ _ _ _, h1.below hB, h2.below hB, (k1.alloc _).alloc _, k2.alloc _, h3, ⟨fun e => ?_, fun e => ?_⟩, ⟨fun e => ?_, fun e => ?_⟩, by omega, ⟨by omega, by omega, by omega⟩, h4, h5, ?_⟩, ?_, Nat.le_refl _, Nat.le_refl _⟩, fun x hx => (by cases hx), fun x hx => (by cases hx), HIV.out⟩, keepB h6 hB⟩
  · have := h1.lt _ e; omega
  · have := h2.lt _ e; omega
  · have := h1.lt _ e; omega
  · have := h2.lt _ e; omega
  · exact Nat.le_trans h7 hB.size
  · exact mt_nil.congr (fun r => ⟨fun h => h.elim, fun ⟨x, hx, _⟩ => by cases hx⟩) (fun g r => ⟨fun h => h.elim, fun ⟨x, hx, _⟩ => by cases hx⟩)
theorem pcells {x : World} {g : Nat} {r : Rq} {v1 v2 : Value} (h : x.heap[g]? = some (.cells (pcs r v1 v2) tP (0, 0))) : x.cell? ⟨g, 0, none⟩ = some (.int .i64 r.link) ∧ x.cell? ⟨g, 1, none⟩ = some (.int .i64 r.cls) ∧ x.cell? ⟨g, 2, none⟩ = some (.string r.num) ∧ x.cell? ⟨g, 3, none⟩ = some (.string r.stp) ∧ x.cell? ⟨g, 4, none⟩ = some (.string r.trm) ∧ x.cell? ⟨g, 5, none⟩ = some (.int .i64 r.frm) ∧ x.cell? ⟨g, 6, none⟩ = some (.int .i64 r.to_) ∧ x.cell? ⟨g, 7, none⟩ = some (.int .i64 r.no) ∧ x.cell? ⟨g, 8, none⟩ = some (.string r.m1) ∧ x.cell? ⟨g, 9, none⟩ = some v1 ∧ x.cell? ⟨g, 10, none⟩ = some (.string r.m2) ∧ x.cell? ⟨g, 11, none⟩ = some v2 := by
  unfold pcs at h
  refine ⟨?_, ?_, ?_, ?_, ?_, ?_, ?_, ?_, ?_, ?_, ?_, ?_⟩ <;> simp [World.cell?, h]
theorem bool_of {b : Bool} {p : Prop} (h : b = true ↔ p) (hp : p) : b = true := h.2 hp
theorem bool_no {b : Bool} {p : Prop} (h : b = true ↔ p) (hp : ¬ p) : b = false := by
  cases b with
  | false => rfl
  | true => exact absurd (h.1 rfl) hp
section
variable {w : World} {base b : Nat} {C : Cf} {S : St}
theorem has_tb (h : Tb w base b C S) {r : Rq} (ho : Ro r) (B : Bool) (hB : B = true ↔ ∃ x ∈ S.LW, kl x.2.2.2 = kl r) : Calls Try.prog 18 #[.pointer (some ⟨b, 0, none⟩), kv r] w fun e w' => e = .returned (.bool B) ∧ Below w.heap.size w w' := by
  obtain ⟨wb, rb, kb, hb, Bw, Br, ck, ch, Dk, Dh, h1, h2, h3⟩ := h.mem
  have := Pd.has_any h1 r.link r.cls r.num r.stp r.trm (kl_of ho)
  have e : Maps.has Dk (kl r) = B := by
    apply Bool.eq_iff_iff.2
    rw [h2.key, hB]
    constructor
    · rintro ⟨q, ⟨x, hx, rfl⟩, e⟩; exact ⟨x, hx, e⟩
    · rintro ⟨x, hx, e⟩; exact ⟨_, ⟨x, hx, rfl⟩, e⟩
  rw [show keyL r.link r.cls r.num r.stp r.trm = kl r from rfl, e] at this
  exact this
theorem holds_tb (h : Tb w base b C S) {r : Rq} (ho : Ro r) (B : Bool) (hB : B = true ↔ ∃ x ∈ S.LW ++ S.LR, nl x.2.2.2 = nl r) : Calls Try.prog 23 #[.pointer (some ⟨b, 0, none⟩), nv r] w fun e w' => e = .returned (.bool B) ∧ Below w.heap.size w w' := by
  obtain ⟨wb, rb, kb, hb, Bw, Br, ck, ch, Dk, Dh, h1, h2, h3⟩ := h.mem
  have := Pd.holds_any h1 r.to_ r.no (nl_of ho)
  have e : Maps.has Dh (nl r) = B := by
    apply Bool.eq_iff_iff.2
    rw [h2.hel, hB]
    constructor
    · rintro ⟨g, q, ⟨x, hx, e1, e2⟩, e⟩; exact ⟨x, hx, by rw [e2]; exact e⟩
    · rintro ⟨x, hx, e⟩; exact ⟨_, _, ⟨x, hx, rfl, rfl⟩, e⟩
  rw [show nameL r.to_ r.no = nl r from rfl, e] at this
  exact this
theorem len_tb (h : Tb w base b C S) : Calls Try.prog 11 #[.pointer (some ⟨b, 0, none⟩)] w fun e w' => e = .returned (.int .i64 (S.LW.length : Nat)) ∧ w' = w := by
  obtain ⟨wb, rb, kb, hb, Bw, Br, ck, ch, Dk, Dh, h1, -⟩ := h.mem
  have := Pd.len_any h1
  rwa [List.length_map] at this
theorem late_tb (h : Tb w base b C S) : Calls Try.prog 12 #[.pointer (some ⟨b, 0, none⟩)] w fun e w' => e = .returned (.int .i64 (S.LR.length : Nat)) ∧ w' = w := by
  obtain ⟨wb, rb, kb, hb, Bw, Br, ck, ch, Dk, Dh, h1, -⟩ := h.mem
  have := Pd.late_any h1
  rwa [List.length_map] at this
end
end Go.Proofs.Ytgchdjjafgkcbaa.Pg
