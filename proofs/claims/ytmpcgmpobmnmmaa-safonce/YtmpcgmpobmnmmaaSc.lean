/- has: is there one of that number? -/
import Derived.Test.YtmpcgmpobmnmmaaSb
import Derived.Shelf.Abstract
namespace Go.Proofs.Ytmpcgmpobmnmmaa.Sc
set_option linter.unusedVariables false
set_option linter.unusedSimpArgs false
open Go.RowKit Go.Maps Lib0 Kb Xp Za Ze Sa Sb
attribute [local go_sem] Oper.semAt_some
set_option maxRecDepth 100000 in
theorem pred_any (W : World) (base k cb : Nat) (a : Av) (t : Int) (ha : Ad W base k a) (hb : W.heap[cb]? = some (.cells #[.int .i64 t] tI (0, 0))) :
    Calls Try.prog 60 #[.pointer (some ⟨k, 0, none⟩), .pointer (some ⟨cb, 0, none⟩)] W fun e w' => e = .returned (.bool (a.no == t)) ∧ Below W.heap.size W w' := by
  have HD : Hid (∀ n, Below W.heap.size W (W.drewN n)) := fun n => below_drewN (Below.refl _ W) n
  have c0 : W.cell? ⟨cb, 0, none⟩ = some (.int .i64 t) := by simp [World.cell?, hb]
  have c1 := ha.cell
  clear ha hb
  go_enter Try.func60, Try.ntmps60
  go_wp2_with fail
  go_quiet (fail)
  go_wp2_with fail
  go_ret
  exact ⟨rfl, HD.out _⟩
def hit (zs : List ZA) (t : Int) : Bool := zs.any fun z => z.2.no == t
set_option maxRecDepth 100000 in
set_option maxHeartbeats 1600000 in
theorem index_any (cb : Nat) (t : Int) (w : World) (base : Nat) (v : Value) (zs : List ZA) (hr : w.ownsRow base tP 1 v zs.length (zs.map fun z => ptr z.1)) (ha : ∀ z ∈ zs, Ad w base z.1 z.2) (hl : zs.length ≤ 4611686018427387904) (hcb : w.heap[cb]? = some (.cells #[.int .i64 t] tI (0, 0))) :
    Calls Try.prog 65 #[v, .func (.func 60) #[] #[.pointer (some ⟨cb, 0, none⟩)]] w fun e w' => (∃ r : Int, e = .returned (.int .i64 r) ∧ (0 ≤ r ↔ hit zs t = true)) ∧ Below w.heap.size w w' := by
  obtain ⟨o, cap, rfl, hc1, hc2, hc3⟩ := own_form hr
  have HC : Hid (∀ i (h : i < zs.length), ∃ a : Addr, o = some a ∧ w.cell? (a.add i) = some (ptr zs[i].1)) := fun i h => by
    rcases hr.2 with ⟨e, h0⟩ | ⟨g, cap, cur, e, r⟩
    · omega
    · injection e with e1 e2 e3
      subst e1
      exact ⟨_, rfl, hr.cells (g := g) rfl _ _ (by rw [List.getElem?_map, List.getElem?_eq_getElem h]; rfl)⟩
  have HB : Hid (w.heap[cb]? = some (.cells #[.int .i64 t] tI (0, 0))) := hcb
  have HA : Hid (∀ z ∈ zs, Ad w base z.1 z.2) := ha
  obtain ⟨N, HN⟩ : ∃ N, Hid (zs.length = N) := ⟨_, rfl⟩
  rw [HN.out] at hl
  rw [HN.out]
  clear hr ha hcb hc1 hc2 hc3
  go_enter Try.func65, Try.ntmps65
  go_wp2_with fail
  go_loopw [8, 5] (fun iv _ wr => ∃ i : Nat, iv = .int .i64 (i : Int) ∧ i ≤ N ∧ Hid (∀ j (h : j < zs.length), j < i → (zs[j].2.no == t) = false) ∧ Hid (Below w.heap.size w wr)) (fun iv _ _ => N + 1 - (intOf iv).toNat)
  case atStart => exact ⟨0, rfl, Nat.zero_le _, fun j h hj => absurd hj (Nat.not_lt_zero _), Below.refl _ _⟩
  case round =>
    obtain ⟨i, rfl, hi, HF, HW⟩ := hrel
    by_cases hlt : i < N
    · have hi2 : i < zs.length := by rw [HN.out]; exact hlt
      have HI : Hid (i < zs.length) := hi2
      obtain ⟨a, rfl, c0⟩ := HC.out i hi2
      replace c0 : wr.cell? (a.add i) = some (ptr (zs[i]'hi2).1) := (HW.out.cell (World.block_lt_of_cell? w _ c0)).trans c0
      have q0 : (i : Int) < (N : Int) := by omega
      have q1 : (0 : Int) ≤ (i : Int) := by omega
      have q3 : (i : Int) + 1 ≤ 9223372036854775807 := by omega
      have hcall := pred_any wr base _ cb _ t ((HA.out _ (List.getElem_mem hi2)).keep (Kq.of HW.out)) (kept HW.out HB.out)
      obtain ⟨x, HX⟩ : ∃ x : ZA, Hid (∀ h : i < zs.length, zs[i]'h = x) := ⟨zs[i]'hi2, fun _ => rfl⟩
      rw [HX.out hi2] at c0 hcall
      obtain ⟨x0, x1⟩ := x
      unfold ptr at c0
      dsimp only at c0 hcall
      obtain ⟨pv, HPV⟩ : ∃ pv, Hid ((x1.no == t) = pv) := ⟨_, rfl⟩
      rw [HPV.out] at hcall
      clear hi hi2
      cases pv
      · go_wp2_with fail
        refine hcall.mono ?_
        rintro e w' ⟨rfl, hw'⟩
        go_wp2_with fail
        have HW2 : Hid (Below w.heap.size w w') := keepB HW.out hw'
        refine ⟨⟨i + 1, by simp, by omega, ?_, HW2⟩, ?_⟩
        · intro j hj hji
          by_cases e : j = i
          · subst e
            rw [HX.out hj]; exact HPV.out
          · exact HF.out j hj (by omega)
        · simp only [intOf]; omega
      · go_wp2_with fail
        refine hcall.mono ?_
        rintro e w' ⟨rfl, hw'⟩
        go_wp2_with fail
        go_ret
        exact ⟨⟨_, rfl, ⟨fun _ => List.any_eq_true.2 ⟨_, List.getElem_mem HI.out, by rw [HX.out HI.out]; exact HPV.out⟩, fun _ => by omega⟩⟩, keepB HW.out hw'⟩
    · obtain rfl : i = N := by omega
      have HE : Hid (hit zs t = false) := by
        refine List.any_eq_false.2 fun x hx => ?_
        obtain ⟨j, hj, rfl⟩ := List.getElem_of_mem hx
        have := HF.out j hj (by rw [← HN.out]; exact hj)
        simpa using this
      clear hi
      go_wp2_with fail
      go_ret
      exact ⟨⟨_, rfl, ⟨fun h => by omega, fun h => by rw [HE.out] at h; cases h⟩⟩, HW.out⟩
def hasB (L : List Av) (t : Int) : Bool := L.any fun a => a.no == t
theorem hit_eq (zs : List ZA) (t : Int) : hit zs t = hasB (zs.map Prod.snd) t := by
  simp only [hit, hasB, List.any_map]
  rfl
set_option maxRecDepth 100000 in
theorem has_any {w : World} {base g : Nat} {S : St} (h : Sq w base g S) (ok : Ok S) (t : Int) : Calls Try.prog 44 #[.pointer (some ⟨g, 0, none⟩), .int .i64 t] w fun e w' => e = .returned (.bool (hasB S.L t)) ∧ Below w.heap.size w w' := by
  obtain ⟨vw, vg, zs, h⟩ := h
  obtain ⟨y, hy⟩ : ∃ y, w.alloc (.cells #[.int .i64 t] tI) = y := ⟨_, rfl⟩
  have HB : Hid (Below w.heap.size w y) := hy ▸ below_one _ _
  have hq := h.below HB.out
  have HX : Hid (y.heap[w.heap.size]? = some (.cells #[.int .i64 t] tI (0, 0))) := hy ▸ h1_0 _ _
  obtain ⟨-, -, -, c3, -⟩ := hq.cells
  have hl : zs.length ≤ 10000 := by
    have e : zs.length = S.L.length := by rw [← h.eq, List.length_map]
    have := ok.len
    have := ok.m1
    omega
  have hix := index_any w.heap.size t y base vw zs hq.row hq.ads (by omega) HX.out
  have HCF : Hid (Calls Try.prog 59 #[vw, .func (.func 60) #[] #[.pointer (some ⟨w.heap.size, 0, none⟩)]] y fun e w' => e = .returned (.bool (hasB S.L t)) ∧ Below y.heap.size y w') := by
    have he : hit zs t = hasB S.L t := by rw [hit_eq, h.eq]
    rw [he] at hix
    clear h hq HX HB c3 hy hl
    go_enter Try.func59, Try.ntmps59
    go_wp2_with fail
    refine hix.mono ?_
    rintro e w' ⟨⟨r, rfl, hr⟩, hw'⟩
    have q : decide ((0 : Int) ≤ r) = hasB S.L t := by
      cases hb : hasB S.L t
      · rw [hb] at hr
        exact decide_eq_false fun h => by have := hr.1 h; cases this
      · rw [hb] at hr
        exact decide_eq_true (hr.2 rfl)
    have Q : Hid _ := q
    clear hr q
    go_wp2_with fail
    go_ret
    exact ⟨congrArg (fun b => Ending.returned (.bool b)) Q.out, hw'⟩
  obtain ⟨o, cp, rfl, -⟩ := own_form h.row
  clear h hq hix ok HX hl
  go_enter Try.func44, Try.ntmps44
  go_wp2_with fail
  try rw [hy]
  go_wp2_with (go_at_call 59; refine HCF.out.mono ?_; rintro e w' ⟨rfl, hw'⟩)
  go_ret
  exact ⟨rfl, keepB HB.out hw'⟩
end Go.Proofs.Ytmpcgmpobmnmmaa.Sc
