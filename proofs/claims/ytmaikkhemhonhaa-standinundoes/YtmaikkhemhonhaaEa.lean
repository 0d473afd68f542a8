/- An approval is taken off a sheet; it is found there. -/
import Derived.Test.YtmaikkhemhonhaaDz
import Derived.Test.YtmaikkhemhonhaaDp
import Derived.Test.YtmaikkhemhonhaaQu
namespace Go.Proofs.Ytmaikkhemhonhaa.Ea
set_option linter.unusedVariables false
set_option linter.unusedSimpArgs false
open Go.RowKit Go.Maps Lib0 Kb Xp Da Db Dc Dd De Dh Dp Dz
attribute [local go_sem] Oper.semAt_some
theorem uS_erase {L : List Ap} {p : Nat} (hp : p < L.length) : uS (L.eraseIdx p) = uS L - L[p].2.1 := by
  have e : L = L.take p ++ L[p] :: L.drop (p + 1) := by rw [List.getElem_cons_drop]; simp
  have e2 : uS L = uS (L.take p) + (L[p].2.1 + uS (L.drop (p + 1))) := by
    conv => lhs; rw [e]
    rw [uS_append, uS_cons]
  rw [List.eraseIdx_eq_take_drop_succ, uS_append]
  omega
theorem take_new {w : World} {base gr cap : Nat} {L : List Ap} (h : w.ownsRow base tA 3 (.slice (some ⟨gr, 0, none⟩) L.length cap) L.length (apc L)) (p : Nat) : ∀ k u, (gc ((L.take p).map apx))[k]? = some u → w.cell? ((⟨gr, 0, none⟩ : Addr).add k) = some u := fun k u hk => by
  refine h.cells (g := gr) rfl k u ?_
  unfold apc
  have e : L.map apx = (L.take p).map apx ++ (L.drop p).map apx := by rw [← List.map_append, List.take_append_drop]
  rw [e, gc_append, List.getElem?_append_left (List.getElem?_eq_some_iff.1 hk).1]
  exact hk
theorem drop_new {w : World} {base gr cap : Nat} {L : List Ap} (h : w.ownsRow base tA 3 (.slice (some ⟨gr, 0, none⟩) L.length cap) L.length (apc L)) (p : Nat) (hp : p ≤ L.length) : ∀ k u, (gc ((L.drop p).map apx))[k]? = some u → w.cell? ((⟨gr, p * 3, none⟩ : Addr).add k) = some u := fun k u hk => by
  have k0 : (⟨gr, p * 3, none⟩ : Addr).add k = (⟨gr, 0, none⟩ : Addr).add (p * 3 + k) := by
    rw [add_zero]
    unfold Addr.add; split <;> simp_all
  rw [k0]
  refine h.cells (g := gr) rfl _ u ?_
  unfold apc
  have e : L.map apx = (L.take p).map apx ++ (L.drop p).map apx := by rw [← List.map_append, List.take_append_drop]
  have e2 : (gc ((L.take p).map apx)).length = p * 3 := by rw [gc_len, List.length_map, List.length_take, Nat.min_eq_left hp]
  rw [e, gc_append, List.getElem?_append_right (by omega), e2, Nat.add_sub_cancel_left]
  exact hk
theorem sl_low (w : World) (gr N cap P : Nat) (h0 : P ≤ N) : (Instr.slice tSS (.slice (some ⟨gr, 0, none⟩) N cap) (some (.int .i64 (P : Int))) none none).run Try.prog w = .ok (.slice (some (if cap = P then ⟨gr, 0, none⟩ else ⟨gr, P * 3, none⟩)) (N - P) (cap - P)) w := by
  obtain ⟨i, hi, -, hsz, -⟩ := infoAp
  have e1 : (0 : Int) ≤ (P : Int) := by omega
  have e2 : (P : Int) ≤ (N : Int) := by omega
  have e3 : (⟨gr, 0, none⟩ : Addr).add (P * 3) = ⟨gr, P * 3, none⟩ := add_zero gr (P * 3)
  by_cases hc : cap = P
  · simp [Instr.slice, Instr.sliceBounds, Instr.sliceBound, run_underlying Try.underlying96, sizeOf, typeInfo, hi, hsz, asIntOf, e1, e2, hc, h0]
  · simp [Instr.slice, Instr.sliceBounds, Instr.sliceBound, run_underlying Try.underlying96, sizeOf, typeInfo, hi, hsz, asIntOf, e1, e2, hc, e3, h0]
theorem sl_high (w : World) (gr N cap p : Nat) (h0 : p ≤ cap) : (Instr.slice tSS (.slice (some ⟨gr, 0, none⟩) N cap) none (some (.int .i64 (p : Int))) none).run Try.prog w = .ok (.slice (some ⟨gr, 0, none⟩) p cap) w := by
  obtain ⟨i, hi, -, hsz, -⟩ := infoAp
  have e1 : (0 : Int) ≤ (p : Int) := by omega
  have e2 : (p : Int) ≤ (cap : Int) := by omega
  have e3 : (⟨gr, 0, none⟩ : Addr).add 0 = ⟨gr, 0, none⟩ := add_zero gr 0
  by_cases hc : cap = 0
  · obtain rfl : p = 0 := by omega
    simp [Instr.slice, Instr.sliceBounds, Instr.sliceBound, run_underlying Try.underlying96, sizeOf, typeInfo, hi, hsz, asIntOf, e1, e2, hc, h0]
  · simp [Instr.slice, Instr.sliceBounds, Instr.sliceBound, run_underlying Try.underlying96, sizeOf, typeInfo, hi, hsz, asIntOf, e1, e2, hc, e3, h0]
def PostT (w : World) (base g : Nat) (L : List Ap) (y : World) : Prop := ∃ v', ShM y base g v' L ∧ (∀ b, v'.ownBlock = some b → w.heap.size ≤ b) ∧ FrP (fun b => b = g) w y
theorem PostT.behind {w y z : World} {base g : Nat} {L : List Ap} (h : PostT w base g L y) (k : Below y.heap.size y z) : PostT w base g L z := by
  obtain ⟨v', h1, h2, h3⟩ := h
  exact ⟨v', h1.below k, h2, h3.behind k⟩
set_option maxRecDepth 100000 in
set_option maxHeartbeats 3200000 in
theorem takeOutS_any {w : World} {base g : Nat} {v : Value} {L : List Ap} (h : ShM w base g v L) (hbase : base ≤ w.heap.size) (p : Nat) (hp : p < L.length) (hl : L.length ≤ 1000000) (ham : Am L) : Calls Try.prog 43 #[.pointer (some ⟨g, 0, none⟩), .int .i64 (p : Int)] w fun e w' => e = .returned (.tuple #[]) ∧ PostT w base g (L.eraseIdx p) w' := by
  obtain ⟨gr, cap, rfl, hcap, hcm⟩ : ∃ gr cap, v = .slice (some ⟨gr, 0, none⟩) L.length cap ∧ L.length ≤ cap ∧ cap ≤ maxLen := by
    rcases h.row.2 with ⟨rfl, h0⟩ | ⟨g2, c2, cur, rfl, -, -, h3, h4, -⟩
    · omega
    · exact ⟨g2, c2, rfl, h3, h4⟩
  obtain ⟨s0, s1⟩ := h.cells
  obtain ⟨o, cp, e, hcell⟩ := rowa_own h.row
  injection e with e1 e2 e3
  subst e1
  subst e3
  obtain ⟨ad, ea, -, r1, -⟩ := hcell p hp
  injection ea with ea
  subst ea
  rw [add_zero] at r1
  have hx := ham _ (List.getElem_mem hp)
  have hsum := ham.sum
  have hU : uS (L.eraseIdx p) = uS L - L[p].2.1 := uS_erase hp
  have hsum2 : Am (L.eraseIdx p) := fun a ha => ham a (List.mem_of_mem_eraseIdx ha)
  have hs2 := hsum2.sum
  rw [hU] at hs2
  have hle : (L.eraseIdx p).length ≤ L.length := by rw [List.length_eraseIdx]; split <;> omega
  obtain ⟨x1, hx1⟩ : ∃ x1, L[p].2.1 = x1 := ⟨_, rfl⟩
  rw [hx1] at r1 hU hs2 hx
  obtain ⟨U, hUU⟩ : ∃ U, uS L = U := ⟨_, rfl⟩
  rw [hUU] at s1 hU hs2 hsum
  have q0 : U - x1 ≤ 9223372036854775807 := by omega
  have q1 : -9223372036854775808 ≤ U - x1 := by omega
  obtain ⟨w1, hw1⟩ : ∃ w1, w.drew.setCell ⟨g, 1, none⟩ (.int .i64 (U - x1)) = w1 := ⟨_, rfl⟩
  have hblk : w.drew.heap[g]? = some (.cells #[.slice (some ⟨gr, 0, none⟩) L.length cap, .int .i64 U] tS (0, 0)) := by have := h.blk; rw [hUU] at this; exact this
  have hb1 : w1.heap[g]? = some (.cells #[.slice (some ⟨gr, 0, none⟩) L.length cap, .int .i64 (U - x1)] tS (0, 0)) := by rw [← hw1, setCell_heap hblk]; rfl
  have ngr : g ≠ gr := fun e => by
    obtain ⟨c, hc⟩ := own_ty h.row (g := gr) rfl
    exact ty_ne h.blk hc (by decide) e
  have row1 : w1.ownsRow base tA 3 (.slice (some ⟨gr, 0, none⟩) L.length cap) L.length (apc L) := own_keep h.row fun k hk => by
    have : gr = k := by simpa [Value.ownBlock] using hk
    subst this
    rw [← hw1]
    exact setCell_ne (p := ⟨g, 1, none⟩) ngr _
  have F1 : FrP (fun b => b = g) w w1 := hw1 ▸ (FrP.of (B := fun b => b = g) ((Below.refl _ w).drew)).set (p := ⟨g, 1, none⟩) (.inl rfl) _
  have hs1 : w1.heap.size = w.heap.size := by rw [← hw1, setCell_size]; rfl
  have HCON : Hid (∀ (S1 : Value) (c1 : Nat) (ad : Addr), S1 = .slice (some ad) (L.length - (p + 1)) c1 → (∀ x : World, (∀ k, k < w1.heap.size → x.heap[k]? = w1.heap[k]?) → ∀ k u, (gc ((L.drop (p + 1)).map apx))[k]? = some u → x.cell? (ad.add k) = some u) → ∀ x, w1.drew.alloc (.cells #[.slice (some ⟨gr, 0, none⟩) p cap, S1] tSS) = x → Calls Try.prog 54 #[.slice (some ⟨w1.heap.size, 0, none⟩) 2 2] x fun e w' => ∃ ov nv cv, e = .returned (.slice ov nv cv) ∧ (w'.cell? ⟨g, 0, none⟩ = some (.slice (some ⟨gr, 0, none⟩) L.length cap) ∧ w'.frozen? ⟨g, 0, none⟩ = false) ∧ Hid (PostT w base g (L.eraseIdx p) (w'.setCell ⟨g, 0, none⟩ (.slice ov nv cv)))) := fun S1 c1 ad hS1 hnew x hx => by
    have Bx : Below w1.heap.size w1 x := keepB ((Below.refl _ w1).drew) (hx ▸ below_one _ _)
    have hxx : x.heap[w1.heap.size]? = some (.cells ((List.range 2).map fun j => if j = 0 then .slice (some ⟨gr, 0, none⟩) p cap else S1).toArray tSS) := by
      rw [← hx]; exact h1_0 w1.drew _
    have rowx := own_keep row1 fun k hk => Bx.block k (row1.lt k hk).2
    have hlt : (L.take p).length = p := by rw [List.length_take]; omega
    have e2 : cc (fun j => if j = 0 then (L.take p).map apx else (L.drop (p + 1)).map apx) 2 = (L.eraseIdx p).map apx := by
      rw [List.eraseIdx_eq_take_drop_succ, List.map_append, cc_succ, cc_succ]; simp [cc]
    have hc := concat_any x w1.heap.size 2 (fun j => if j = 0 then .slice (some ⟨gr, 0, none⟩) p cap else S1) (fun j => if j = 0 then (L.take p).map apx else (L.drop (p + 1)).map apx) hxx (fun j hj => by
      by_cases ej : j = 0
      · subst ej
        simp only [if_true]
        exact ⟨⟨gr, 0, none⟩, cap, by rw [List.length_map, hlt], take_new rowx p⟩
      · simp only [if_neg ej]
        exact ⟨ad, c1, by rw [hS1, List.length_map, List.length_drop], hnew x (fun k hk => Bx.block k hk)⟩) (fun j hj => by
      by_cases ej : j = 0
      · subst ej; exact one_map _
      · simp only [if_neg ej]; exact one_map _) (by omega) (by rw [e2, List.length_map]; omega)
    refine hc.mono ?_
    rintro e y ⟨v', rfl, hown, hy⟩
    rw [e2, List.length_map] at hown
    have hby : y.heap[g]? = some (.cells #[.slice (some ⟨gr, 0, none⟩) L.length cap, .int .i64 (U - x1)] tS (0, 0)) := kept hy (kept Bx hb1)
    have hsx : w.heap.size ≤ x.heap.size := by have := Bx.size; omega
    have hgl : g < w.heap.size := (Array.getElem?_eq_some_iff.1 h.blk).1
    obtain ⟨ov, cv, rfl, -⟩ := own_form hown
    refine ⟨ov, _, cv, rfl, ⟨by simp [World.cell?, hby], by simp [World.frozen?, hby]⟩, .slice ov (L.eraseIdx p).length cv, ⟨?_, ?_, h.low⟩, fun b hb => ?_, ?_⟩
    · rw [setCell_heap hby, hU]; rfl
    · refine own_keep (own_base hown fun b hb => ?_) fun b hb => setCell_ne (p := ⟨g, 0, none⟩) (fun e : g = b => ?_) _
      · have := (hown.lt b hb).1; omega
      · have := (hown.lt b hb).1; omega
    · have := (hown.lt b hb).1; omega
    · exact ((F1.behind Bx).behind hy).set (p := ⟨g, 0, none⟩) (.inl rfl) _
  have d0 : w.drew.cell? ⟨g, 0, none⟩ = some (.slice (some ⟨gr, 0, none⟩) L.length cap) := s0
  have d1 : w.drew.cell? ⟨g, 1, none⟩ = some (.int .i64 U) := s1
  have d2 : w.drew.cell? ⟨gr, p * 3 + 1, none⟩ = some (.int .i64 x1) := r1
  have df : w.drew.frozen? ⟨g, 1, none⟩ = false := by simp [World.frozen?, hblk]
  have g0 : w1.drew.cell? ⟨g, 0, none⟩ = some (.slice (some ⟨gr, 0, none⟩) L.length cap) := by show w1.cell? _ = _; simp [World.cell?, hb1]
  have HNEW : Hid (∀ x : World, (∀ k, k < w1.heap.size → x.heap[k]? = w1.heap[k]?) → x.ownsRow base tA 3 (.slice (some ⟨gr, 0, none⟩) L.length cap) L.length (apc L)) := fun x hx => own_keep row1 fun k hk => hx k (row1.lt k hk).2
  have HPL : Hid (p < L.length) := hp
  obtain ⟨N, hN⟩ : ∃ N, L.length = N := ⟨_, rfl⟩
  have HNN : Hid (L.length = N) := hN
  rw [hN] at hp hl hcap d0 g0 HCON
  have z0 : (0 : Int) ≤ (p : Int) := by omega
  have z1 : (p : Int) < (N : Int) := by omega
  have z2 : (p : Int) ≤ (cap : Int) := by omega
  have z4 : (N : Int) ≤ (cap : Int) := by omega
  have z5 : (N : Int) ≤ 1000000 := by omega
  obtain ⟨P, hP⟩ : ∃ P : Nat, p + 1 = P := ⟨_, rfl⟩
  have z6 : (p : Int) + 1 = (P : Int) := by omega
  have HP : Hid (p + 1 = P) := hP
  have z11 : (P : Int) ≤ 9223372036854775807 := by omega
  have z8 : (P : Int) ≤ (N : Int) := by omega
  rw [hP] at HCON
  have HC2 : Hid (∀ x, w1.drew.alloc (.cells #[.slice (some ⟨gr, 0, none⟩) p cap, .slice (some (if cap = P then ⟨gr, 0, none⟩ else ⟨gr, P * 3, none⟩)) (N - P) (cap - P)] tSS) = x → Calls Try.prog 54 #[.slice (some ⟨w1.heap.size, 0, none⟩) 2 2] x fun e w' => ∃ ov nv cv, e = .returned (.slice ov nv cv) ∧ (w'.cell? ⟨g, 0, none⟩ = some (.slice (some ⟨gr, 0, none⟩) N cap) ∧ w'.frozen? ⟨g, 0, none⟩ = false) ∧ Hid (PostT w base g (L.eraseIdx p) (w'.setCell ⟨g, 0, none⟩ (.slice ov nv cv)))) := HCON.out _ _ _ rfl (fun x hx k u hk => by
      by_cases hcp : cap = P
      · exfalso
        have h1 := (List.getElem?_eq_some_iff.1 hk).1
        rw [gc_len, List.length_map, List.length_drop, HNN.out] at h1
        omega
      · rw [if_neg hcp]
        have := drop_new (HNEW.out x hx) P (by rw [HNN.out]; omega)
        exact this k u hk)
  have HSL1 : Hid (∀ y, (Instr.slice tSS (.slice (some ⟨gr, 0, none⟩) N cap) none (some (.int .i64 (p : Int))) none).run Try.prog y = .ok (.slice (some ⟨gr, 0, none⟩) p cap) y) := fun y => sl_high y gr N cap p (by omega)
  have HSL2 : Hid (∀ y, (Instr.slice tSS (.slice (some ⟨gr, 0, none⟩) N cap) (some (.int .i64 ((p : Int) + 1))) none none).run Try.prog y = .ok (.slice (some (if cap = P then ⟨gr, 0, none⟩ else ⟨gr, P * 3, none⟩)) (N - P) (cap - P)) y) := fun y => by rw [z6]; exact sl_low y gr N cap P (by omega)
  have hwr : IntKind.i64.wrap ((p : Int) + 1) = (p : Int) + 1 := wrap_64 _ (by omega) (by omega)
  generalize (if cap = P then (⟨gr, 0, none⟩ : Addr) else ⟨gr, P * 3, none⟩) = AD at *
  generalize N - P = N1 at *
  generalize cap - P = C1 at *
  have HW1 : Hid ((w.setCell ⟨g, 1, none⟩ (.int .i64 (U - x1))).drew = w1) := hw1
  clear h hbase hl ham hcap hcm s0 s1 hcell r1 hx hsum hU hsum2 hs2 hle hx1 hUU hblk hb1 ngr row1 F1 hs1 HCON hN hP hw1 z6 z8 z11
  go_enter Try.func43, Try.ntmps43
  go_wp2_with fail
  go_region_with (fail)
  all_goals (rw [wrap_64 _ q1 q0, HW1.out])
  all_goals (clear d0 d1 d2 df q0 q1 z1 z2)
  all_goals (go_wp2_with fail)
  all_goals (have hgl : g < w1.heap.size := World.block_lt_of_cell? w1 _ g0)
  all_goals (have hs1 := HSL1.out; have hs2 := HSL2.out)
  all_goals (refine Qu.region_tail1 13 4 (C := fun y => y = w1.drew) (.pointer (some ⟨g, 0, none⟩)) (by kernel_rfl) rfl (by kernel_rfl) (by kernel_rfl) (by kernel_rfl) (by kernel_rfl) (by kernel_rfl) (fun _ _ _ h => h) (.inl ⟨by rfl, fun _ => by rfl⟩) rfl ?_)
  all_goals (repeat (refine wpQuiet_step (fun K hK => ?_); first
      | (go_simp; refine hK _ ?_; clear hK K)
      | (go_simp; refine ⟨_, fun _ _ => rfl, hK _ ?_⟩; clear hK K)
      | (go_simp; refine ⟨_, fun _ _ => ⟨rfl, rfl⟩, hK _ ?_⟩; clear hK K)
      | (refine Ql.q_cell (by rfl) 96 _ rfl g 0 rfl _ g0 hgl (fun y => Try.isAgg96 y) (hK _ ?_); clear hK K)))
  all_goals (refine wpQuiet_nil ?_)
  all_goals (intro y hy)
  all_goals (subst hy)
  all_goals (clear hs1 hs2 hwr)
  all_goals (go_wp2_with fail)
  all_goals (refine (HC2.out _ (by rfl)).mono ?_)
  all_goals (rintro e y ⟨ov, nv, cv, rfl, ⟨y0, yf⟩, HE⟩)
  all_goals (go_wp2_with fail)
  all_goals go_end0
  all_goals exact ⟨rfl, HE.out⟩
end Go.Proofs.Ytmaikkhemhonhaa.Ea
