/- Tracks: the program's WriteTrack. -/
import Derived.Test.YtbekjlinnbmpgaaKx
namespace Go.Proofs.Ytbekjlinnbmpgaa.Kv
set_option linter.unusedVariables false
open Go.RowKit Lib0 Kp Kb Kd Kt Ks Kw Ku Kx
def cat (a b c d : ByteArray) : ByteArray := a ++ ⟨#[61]⟩ ++ om b ++ om c ++ d
theorem om_size (b : ByteArray) (h : b.size ≤ 1048576) : (om b).size ≤ 1048577 := by
  unfold om
  split
  · show 1 ≤ _; omega
  · omega
theorem tl_inj {x y : ByteArray} (h : x.toList = y.toList) : x = y := by
  rw [tl, tl] at h
  cases x; cases y
  simp only [ByteArray.mk.injEq]; exact Array.toList_inj.1 h
set_option maxRecDepth 100000 in
set_option maxHeartbeats 1600000 in
theorem write_err (a b c d : ByteArray) (w : World) (ha : a.size ≤ 1048576) (hb : b.size ≤ 1048576) (hc : c.size ≤ 1048576) (hd : d.size ≤ 1048576) (A B C D : ByteArray) (k : Int) (HR : Hid (rt (cat a b c d) = (trkV A B C D, 52, k))) :
    Calls Try.prog 14 #[.agg (trkV a b c d)] w fun e w' => e = .returned (.tuple #[.string em, .int .i64 52]) ∧ Below w.heap.size w w' := by
  have p1 := fun (X : ByteArray) y => or_any X y
  have p2 := fun y => read_any (cat a b c d) y
  have hB := om_size b hb
  have hC := om_size c hc
  rw [rtV, HR.out] at p2
  unfold trkV at *
  have m0 := h1_0 w (Obj.cells #[.string a, .string b, .string c, .string d] 35)
  have b0 := below_one w (Obj.cells #[.string a, .string b, .string c, .string d] 35)
  obtain ⟨r, Hr⟩ : ∃ r, Hid (w.heap.size = r) := ⟨_, rfl⟩
  rw [Hr.out] at m0 b0
  go_enter Try.func14, Try.ntmps14
  go_wp2_with fail
  rw [Hr.out]
  generalize w.alloc (Obj.cells #[.string a, .string b, .string c, .string d] 35) = W at *
  obtain ⟨⟨c0, c1, c2, c3⟩, ⟨f0, f1, f2, f3⟩⟩ := held4 m0
  have hE : r < W.heap.size := (Array.getElem?_eq_some_iff.1 m0).1
  refine Ql.region_cl (by kernel_rfl) (by kernel_rfl) ?_
  repeat (refine wpQuiet_step (fun K hK => ?_); first
    | (go_simp; refine hK _ ?_; clear hK K)
    | (go_simp; refine ⟨_, fun _ _ => rfl, hK _ ?_⟩; clear hK K)
    | (go_simp; refine ⟨_, fun _ _ => ⟨rfl, rfl⟩, hK _ ?_⟩; clear hK K)
    | (refine Ql.q_cell (by rfl) 9 _ rfl r 0 rfl _ c0 hE (fun y => isAgg_str y) (hK _ ?_); clear hK K)
    | (refine Ql.q_cell (by rfl) 9 _ rfl r 1 rfl _ c1 hE (fun y => isAgg_str y) (hK _ ?_); clear hK K)
    | (refine Ql.q_cell (by rfl) 9 _ rfl r 2 rfl _ c2 hE (fun y => isAgg_str y) (hK _ ?_); clear hK K)
    | (refine Ql.q_cell (by rfl) 9 _ rfl r 3 rfl _ c3 hE (fun y => isAgg_str y) (hK _ ?_); clear hK K)
    | (go_simp; apply Exists.intro; refine ⟨fun y hy => ?_, hK _ ?_⟩; (go_at_call 28; exact Ql.cl_same hy (p1 _ y)); clear hK K)
    | (go_simp; apply Exists.intro; refine ⟨fun y hy => ?_, hK _ ?_⟩; (rw [if_neg (by omega)]; exact And.intro rfl rfl); clear hK K))
  refine wpQuiet_nil ?_
  intro y hy
  go_wp2_with fail
  refine (p2 _).mono ?_
  rintro ee z ⟨rfl, hz⟩
  have m1 := kept hz (kept hy m0)
  have n1 := h1_0 z (Obj.cells #[.string A, .string B, .string C, .string D] 35)
  have m2 := kept1 m1 (Obj.cells #[.string A, .string B, .string C, .string D] 35)
  obtain ⟨⟨g0, g1, g2, g3⟩, ⟨k0, k1, k2, k3⟩⟩ := held4 m2
  obtain ⟨⟨l0, l1, l2, l3⟩, ⟨o0, o1, o2, o3⟩⟩ := held4 n1
  have b1 := (b0.trans (hy.mono (Nat.le_of_lt hE))).trans (hz.mono (Nat.le_of_lt (Nat.lt_of_lt_of_le hE hy.size)))
  have b2 := b1.trans ((below_one z (Obj.cells #[.string A, .string B, .string C, .string D] 35)).mono (by have := (Array.getElem?_eq_some_iff.1 m1).1; omega))
  rw [← Hr.out] at b2
  go_wp2
  exact bodyPost_ret (v := .tuple #[.string em, .int .i64 52]) (by simp [results, Try.results14, go_sem]) rfl ⟨rfl, b2⟩
set_option maxRecDepth 100000 in
set_option maxHeartbeats 1600000 in
theorem write_ne (a b c d : ByteArray) (w : World) (ha : a.size ≤ 1048576) (hb : b.size ≤ 1048576) (hc : c.size ≤ 1048576) (hd : d.size ≤ 1048576) (A B C D : ByteArray) (HR : Hid (rt (cat a b c d) = (trkV A B C D, 0, 0))) (hn : ¬ (A = a ∧ B = b ∧ C = c ∧ D = d)) :
    Calls Try.prog 14 #[.agg (trkV a b c d)] w fun e w' => e = .returned (.tuple #[.string em, .int .i64 52]) ∧ Below w.heap.size w w' := by
  have p1 := fun (X : ByteArray) y => or_any X y
  have p2 := fun y => read_any (cat a b c d) y
  have hB := om_size b hb
  have hC := om_size c hc
  rw [rtV, HR.out] at p2
  have HN : Hid (¬ (A = a ∧ B = b ∧ C = c ∧ D = d)) := hn
  clear hn
  unfold trkV at *
  have m0 := h1_0 w (Obj.cells #[.string a, .string b, .string c, .string d] 35)
  have b0 := below_one w (Obj.cells #[.string a, .string b, .string c, .string d] 35)
  obtain ⟨r, Hr⟩ : ∃ r, Hid (w.heap.size = r) := ⟨_, rfl⟩
  rw [Hr.out] at m0 b0
  go_enter Try.func14, Try.ntmps14
  go_wp2_with fail
  rw [Hr.out]
  generalize w.alloc (Obj.cells #[.string a, .string b, .string c, .string d] 35) = W at *
  obtain ⟨⟨c0, c1, c2, c3⟩, ⟨f0, f1, f2, f3⟩⟩ := held4 m0
  have hE : r < W.heap.size := (Array.getElem?_eq_some_iff.1 m0).1
  refine Ql.region_cl (by kernel_rfl) (by kernel_rfl) ?_
  repeat (refine wpQuiet_step (fun K hK => ?_); first
    | (go_simp; refine hK _ ?_; clear hK K)
    | (go_simp; refine ⟨_, fun _ _ => rfl, hK _ ?_⟩; clear hK K)
    | (go_simp; refine ⟨_, fun _ _ => ⟨rfl, rfl⟩, hK _ ?_⟩; clear hK K)
    | (refine Ql.q_cell (by rfl) 9 _ rfl r 0 rfl _ c0 hE (fun y => isAgg_str y) (hK _ ?_); clear hK K)
    | (refine Ql.q_cell (by rfl) 9 _ rfl r 1 rfl _ c1 hE (fun y => isAgg_str y) (hK _ ?_); clear hK K)
    | (refine Ql.q_cell (by rfl) 9 _ rfl r 2 rfl _ c2 hE (fun y => isAgg_str y) (hK _ ?_); clear hK K)
    | (refine Ql.q_cell (by rfl) 9 _ rfl r 3 rfl _ c3 hE (fun y => isAgg_str y) (hK _ ?_); clear hK K)
    | (go_simp; apply Exists.intro; refine ⟨fun y hy => ?_, hK _ ?_⟩; (go_at_call 28; exact Ql.cl_same hy (p1 _ y)); clear hK K)
    | (go_simp; apply Exists.intro; refine ⟨fun y hy => ?_, hK _ ?_⟩; (rw [if_neg (by omega)]; exact And.intro rfl rfl); clear hK K))
  refine wpQuiet_nil ?_
  intro y hy
  go_wp2_with fail
  refine (p2 _).mono ?_
  rintro ee z ⟨rfl, hz⟩
  have m1 := kept hz (kept hy m0)
  have n1 := h1_0 z (Obj.cells #[.string A, .string B, .string C, .string D] 35)
  have m2 := kept1 m1 (Obj.cells #[.string A, .string B, .string C, .string D] 35)
  obtain ⟨⟨g0, g1, g2, g3⟩, ⟨k0, k1, k2, k3⟩⟩ := held4 m2
  obtain ⟨⟨l0, l1, l2, l3⟩, ⟨o0, o1, o2, o3⟩⟩ := held4 n1
  have b1 := (b0.trans (hy.mono (Nat.le_of_lt hE))).trans (hz.mono (Nat.le_of_lt (Nat.lt_of_lt_of_le hE hy.size)))
  have b2 := b1.trans ((below_one z (Obj.cells #[.string A, .string B, .string C, .string D] 35)).mono (by have := (Array.getElem?_eq_some_iff.1 m1).1; omega))
  rw [← Hr.out] at b2
  go_wp2
  all_goals first
    | (exfalso; rename_i h1 h2 h3 h4; exact HN.out ⟨tl_inj h1, tl_inj h2, tl_inj h3, tl_inj h4⟩)
    | exact bodyPost_ret (v := .tuple #[.string em, .int .i64 52]) (by simp [results, Try.results14, go_sem]) rfl ⟨rfl, b2⟩
set_option maxRecDepth 100000 in
set_option maxHeartbeats 1600000 in
theorem write_ok (a b c d : ByteArray) (w : World) (ha : a.size ≤ 1048576) (hb : b.size ≤ 1048576) (hc : c.size ≤ 1048576) (hd : d.size ≤ 1048576) (HR : Hid (rt (cat a b c d) = (trkV a b c d, 0, 0))) :
    Calls Try.prog 14 #[.agg (trkV a b c d)] w fun e w' => e = .returned (.tuple #[.string (cat a b c d), .int .i64 0]) ∧ Below w.heap.size w w' := by
  have p1 := fun (X : ByteArray) y => or_any X y
  have p2 := fun y => read_any (cat a b c d) y
  have hB := om_size b hb
  have hC := om_size c hc
  rw [rtV, HR.out] at p2
  unfold trkV at *
  have m0 := h1_0 w (Obj.cells #[.string a, .string b, .string c, .string d] 35)
  have b0 := below_one w (Obj.cells #[.string a, .string b, .string c, .string d] 35)
  obtain ⟨r, Hr⟩ : ∃ r, Hid (w.heap.size = r) := ⟨_, rfl⟩
  rw [Hr.out] at m0 b0
  go_enter Try.func14, Try.ntmps14
  go_wp2_with fail
  rw [Hr.out]
  generalize w.alloc (Obj.cells #[.string a, .string b, .string c, .string d] 35) = W at *
  obtain ⟨⟨c0, c1, c2, c3⟩, ⟨f0, f1, f2, f3⟩⟩ := held4 m0
  have hE : r < W.heap.size := (Array.getElem?_eq_some_iff.1 m0).1
  refine Ql.region_cl (by kernel_rfl) (by kernel_rfl) ?_
  repeat (refine wpQuiet_step (fun K hK => ?_); first
    | (go_simp; refine hK _ ?_; clear hK K)
    | (go_simp; refine ⟨_, fun _ _ => rfl, hK _ ?_⟩; clear hK K)
    | (go_simp; refine ⟨_, fun _ _ => ⟨rfl, rfl⟩, hK _ ?_⟩; clear hK K)
    | (refine Ql.q_cell (by rfl) 9 _ rfl r 0 rfl _ c0 hE (fun y => isAgg_str y) (hK _ ?_); clear hK K)
    | (refine Ql.q_cell (by rfl) 9 _ rfl r 1 rfl _ c1 hE (fun y => isAgg_str y) (hK _ ?_); clear hK K)
    | (refine Ql.q_cell (by rfl) 9 _ rfl r 2 rfl _ c2 hE (fun y => isAgg_str y) (hK _ ?_); clear hK K)
    | (refine Ql.q_cell (by rfl) 9 _ rfl r 3 rfl _ c3 hE (fun y => isAgg_str y) (hK _ ?_); clear hK K)
    | (go_simp; apply Exists.intro; refine ⟨fun y hy => ?_, hK _ ?_⟩; (go_at_call 28; exact Ql.cl_same hy (p1 _ y)); clear hK K)
    | (go_simp; apply Exists.intro; refine ⟨fun y hy => ?_, hK _ ?_⟩; (rw [if_neg (by omega)]; exact And.intro rfl rfl); clear hK K))
  refine wpQuiet_nil ?_
  intro y hy
  go_wp2_with fail
  refine (p2 _).mono ?_
  rintro ee z ⟨rfl, hz⟩
  have m1 := kept hz (kept hy m0)
  have n1 := h1_0 z (Obj.cells #[.string a, .string b, .string c, .string d] 35)
  have m2 := kept1 m1 (Obj.cells #[.string a, .string b, .string c, .string d] 35)
  obtain ⟨⟨g0, g1, g2, g3⟩, ⟨k0, k1, k2, k3⟩⟩ := held4 m2
  obtain ⟨⟨l0, l1, l2, l3⟩, ⟨o0, o1, o2, o3⟩⟩ := held4 n1
  have b1 := (b0.trans (hy.mono (Nat.le_of_lt hE))).trans (hz.mono (Nat.le_of_lt (Nat.lt_of_lt_of_le hE hy.size)))
  have b2 := b1.trans ((below_one z (Obj.cells #[.string a, .string b, .string c, .string d] 35)).mono (by have := (Array.getElem?_eq_some_iff.1 m1).1; omega))
  rw [← Hr.out] at b2
  go_wp2
  exact bodyPost_ret (v := .tuple #[.string (cat a b c d), .int .i64 0]) (by simp [results, Try.results14, go_sem, cat]) rfl ⟨rfl, b2⟩
open Classical in
noncomputable def wtP (a b c d : ByteArray) : ByteArray × Int := if rt (cat a b c d) = (trkV a b c d, 0, 0) then (cat a b c d, 0) else (em, 52)
noncomputable def wtV (a b c d : ByteArray) : Value := .tuple #[.string (wtP a b c d).1, .int .i64 (wtP a b c d).2]
theorem rt_form (s : ByteArray) : (∃ A B C D, rt s = (trkV A B C D, 0, 0)) ∨ (∃ k : Int, rt s = (trkV em em em em, 52, k)) := by
  unfold rt
  split
  · exact .inr ⟨37, rfl⟩
  · match tr s with
    | .ok (p, x, v) => exact .inl ⟨_, _, _, _, rfl⟩
    | .error k => exact .inr ⟨k, rfl⟩
theorem trkV_inj {a b c d A B C D : ByteArray} (h : trkV A B C D = trkV a b c d) : A = a ∧ B = b ∧ C = c ∧ D = d := by
  simpa [trkV] using h
theorem write_any (a b c d : ByteArray) (w : World) (ha : a.size ≤ 1048576) (hb : b.size ≤ 1048576) (hc : c.size ≤ 1048576) (hd : d.size ≤ 1048576) :
    Calls Try.prog 14 #[.agg (trkV a b c d)] w fun e w' => e = .returned (wtV a b c d) ∧ Below w.heap.size w w' := by
  rcases rt_form (cat a b c d) with ⟨A, B, C, D, h⟩ | ⟨k, h⟩
  · by_cases hn : A = a ∧ B = b ∧ C = c ∧ D = d
    · obtain ⟨rfl, rfl, rfl, rfl⟩ := hn
      rw [wtV, wtP, if_pos h]
      exact write_ok _ _ _ _ w ha hb hc hd h
    · rw [wtV, wtP, if_neg (by rw [h]; intro hh; exact hn (trkV_inj (Prod.mk.inj hh).1))]
      exact write_ne a b c d w ha hb hc hd A B C D h hn
  · rw [wtV, wtP, if_neg (by rw [h]; intro hh; have := (Prod.mk.inj (Prod.mk.inj hh).2).1; omega)]
    exact write_err a b c d w ha hb hc hd em em em em k h
end Go.Proofs.Ytbekjlinnbmpgaa.Kv
