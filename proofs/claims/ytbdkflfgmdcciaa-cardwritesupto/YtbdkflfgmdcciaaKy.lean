/- Tracks: the document's WriteTrack. -/
import Derived.Test.YtbdkflfgmdcciaaKc
namespace Go.Proofs.Ytbdkflfgmdcciaa.Ky
set_option linter.unusedVariables false
open Go.RowKit Lib0 Kp Kb Kd Kt Ks Kw Ku Kx Kv Kq Km4 Kr Ke Kf Kc
theorem app_em (x : ByteArray) : x ++ em = x := by apply ba_ext'; simp
theorem em_ne {b : ByteArray} (h : b ≠ em) : b.toList.isEmpty = false := by
  rw [tl, List.isEmpty_eq_false_iff]; intro hh; exact h (ba_eq.1 hh)
theorem em_size {b : ByteArray} (h : b ≠ em) : 0 < b.size := by
  rcases Nat.eq_zero_or_pos b.size with h0 | h0
  · exfalso; apply h; apply ba_ext'
    have : b.data.toList.length = 0 := h0
    rw [List.length_eq_zero_iff.1 this]
  · exact h0
set_option maxRecDepth 100000 in
set_option maxHeartbeats 1600000 in
theorem writer_ee (a d : ByteArray) (w : World) (za : a.size ≤ 1048576) (zd : d.size ≤ 1048576) :
    Calls Try.prog 23 #[.agg (trkV a em em d)] w fun e w' => e = .returned (wtV a em em d) ∧ Below w.heap.size w w' := by
  have HF : Hid (cat a em em d = a ++ ⟨#[61]⟩ ++ ⟨#[61]⟩ ++ ⟨#[61]⟩ ++ d) := by
    show _ = _
    unfold cat
    rw [om_em]
  have HZ : Hid ((cat a em em d).size = a.size + 1 + 1 + 1 + d.size) := by
    show _ = _
    rw [cat_size]
    rw [om_em]; rfl
  have p1 := fun y => digits_any a 1 19 y (by omega)
  have p4 := fun y => digits_any d 0 37 y (by omega)
  have HV : Hid (Vd a em em d ↔ ((decide (1 ≤ a.size) && decide (a.size ≤ 19) && ad a) = true ∧ (decide (0 ≤ d.size) && decide (d.size ≤ 37) && ad d) = true ∧ (cat a em em d).size ≤ 37)) := by
    constructor
    · intro h
      have := h.hs
      rw [cat_size] at this
      refine ⟨?_, ?_, h.hs⟩
      · rw [h.ha]; simp; exact ⟨h.a1, h.a2⟩
      · rw [h.hd]; simp; omega
    · intro h
      simp only [Bool.and_eq_true, decide_eq_true_eq] at h
      exact ⟨h.1.1.1, h.1.1.2, h.1.2, .inl rfl, .inl rfl, h.2.1.2, h.2.2⟩
  generalize (decide (1 ≤ a.size) && decide (a.size ≤ 19) && ad a) = X1 at *
  generalize (decide (0 ≤ d.size) && decide (d.size ≤ 37) && ad d) = X4 at *
  have HG : Hid (∀ n : Int, n = (a.size : Int) + 1 + 1 + 1 + (d.size : Int) → X1 = true → X4 = true → n ≤ 37 → wtV a em em d = .tuple #[.string (a ++ ⟨#[61]⟩ ++ ⟨#[61]⟩ ++ ⟨#[61]⟩ ++ d), .int .i64 0]) := by
    intro n hn hX1 hX4 h37
    rw [wtV, wtP_eq, if_pos (HV.out.2 ⟨hX1, hX4, by rw [HZ.out]; omega⟩), HF.out]
  have HB : Hid (¬ (X1 = true ∧ X4 = true ∧ (a.size : Int) + 1 + 1 + 1 + (d.size : Int) ≤ 37) → wtV a em em d = .tuple #[.string em, .int .i64 52]) := by
    intro hn
    rw [wtV, wtP_eq, if_neg]
    intro hh
    have h2 := HV.out.1 hh
    apply hn
    refine ⟨h2.1, h2.2.1, ?_⟩
    have h3 := h2.2.2
    rw [HZ.out] at h3
    omega
  have m0 := h1_0 w (Obj.cells #[.string a, .string em, .string em, .string d] 33)
  have b0 := below_one w (Obj.cells #[.string a, .string em, .string em, .string d] 33)
  obtain ⟨r, Hr⟩ : ∃ r, Hid (w.heap.size = r) := ⟨_, rfl⟩
  rw [Hr.out] at m0 b0
  clear HF HZ HV
  unfold trkV
  go_enter Try.func23, Try.ntmps23
  go_wp2_with fail
  rw [Hr.out]
  change Calls _ _ _ (w.alloc (Obj.cells #[.string a, .string em, .string em, .string d] 33)) _
  generalize w.alloc (Obj.cells #[.string a, .string em, .string em, .string d] 33) = W at *
  obtain ⟨⟨c0, c1, c2, c3⟩, ⟨f0, f1, f2, f3⟩⟩ := held4 m0
  refine (p1 _).mono ?_
  rintro ee y ⟨rfl, rfl⟩
  go_wp2_with fail
  refine (p4 _).mono ?_
  rintro ee y4 ⟨rfl, rfl⟩
  cases X1
  · have HW : Hid (wtV a em em d = .tuple #[.string em, .int .i64 52]) := HB.out (by simp)
    go_wp2
    exact bodyPost_ret (v := .tuple #[.string em, .int .i64 52]) (by simp [results, Try.results23, go_sem]) rfl ⟨congrArg Ending.returned HW.out.symm, by rw [Hr.out]; exact b0⟩
  · cases X4
    · have HW : Hid (wtV a em em d = .tuple #[.string em, .int .i64 52]) := HB.out (by simp)
      go_wp2
      exact bodyPost_ret (v := .tuple #[.string em, .int .i64 52]) (by simp [results, Try.results23, go_sem]) rfl ⟨congrArg Ending.returned HW.out.symm, by rw [Hr.out]; exact b0⟩
    · by_cases h37 : (a.size : Int) + 1 + 1 + 1 + (d.size : Int) ≤ 37
      · have HW : Hid (wtV a em em d = .tuple #[.string (a ++ ⟨#[61]⟩ ++ ⟨#[61]⟩ ++ ⟨#[61]⟩ ++ d), .int .i64 0]) := HG.out _ rfl rfl rfl h37
        go_wp2
        exact bodyPost_ret (v := .tuple #[.string (a ++ ⟨#[61]⟩ ++ ⟨#[61]⟩ ++ ⟨#[61]⟩ ++ d), .int .i64 0]) (by simp [results, Try.results23, go_sem, app_em]) rfl ⟨congrArg Ending.returned HW.out.symm, by rw [Hr.out]; exact b0⟩
      · have HW : Hid (wtV a em em d = .tuple #[.string em, .int .i64 52]) := HB.out (fun hh => h37 hh.2.2)
        have h38 : 37 < (a.size : Int) + 1 + 1 + 1 + (d.size : Int) := by omega
        go_wp2
        exact bodyPost_ret (v := .tuple #[.string em, .int .i64 52]) (by simp [results, Try.results23, go_sem]) rfl ⟨congrArg Ending.returned HW.out.symm, by rw [Hr.out]; exact b0⟩
set_option maxRecDepth 100000 in
set_option maxHeartbeats 1600000 in
theorem writer_en (a c d : ByteArray) (w : World) (za : a.size ≤ 1048576) (zc : c.size ≤ 1048576) (zd : d.size ≤ 1048576) (hc : c ≠ em) :
    Calls Try.prog 23 #[.agg (trkV a em c d)] w fun e w' => e = .returned (wtV a em c d) ∧ Below w.heap.size w w' := by
  have HF : Hid (cat a em c d = a ++ ⟨#[61]⟩ ++ ⟨#[61]⟩ ++ c ++ d) := by
    show _ = _
    unfold cat
    rw [om_em, om_ne (em_size hc)]
  have HZ : Hid ((cat a em c d).size = a.size + 1 + 1 + c.size + d.size) := by
    show _ = _
    rw [cat_size]
    rw [om_em, om_ne (em_size hc)]; rfl
  have p1 := fun y => digits_any a 1 19 y (by omega)
  have p3 := fun y => digits_any c 3 3 y (by omega)
  have ec := em_ne hc
  have p4 := fun y => digits_any d 0 37 y (by omega)
  have HV : Hid (Vd a em c d ↔ ((decide (1 ≤ a.size) && decide (a.size ≤ 19) && ad a) = true ∧ (decide (3 ≤ c.size) && decide (c.size ≤ 3) && ad c) = true ∧ (decide (0 ≤ d.size) && decide (d.size ≤ 37) && ad d) = true ∧ (cat a em c d).size ≤ 37)) := by
    constructor
    · intro h
      have := h.hs
      rw [cat_size] at this
      refine ⟨?_, ?_, ?_, h.hs⟩
      · rw [h.ha]; simp; exact ⟨h.a1, h.a2⟩
      · have := h.hc.resolve_left hc
        rw [this.1, this.2]; rfl
      · rw [h.hd]; simp; omega
    · intro h
      simp only [Bool.and_eq_true, decide_eq_true_eq] at h
      exact ⟨h.1.1.1, h.1.1.2, h.1.2, .inl rfl, .inr ⟨by have := h.2.1; omega, h.2.1.2⟩, h.2.2.1.2, h.2.2.2⟩
  generalize (decide (1 ≤ a.size) && decide (a.size ≤ 19) && ad a) = X1 at *
  generalize (decide (3 ≤ c.size) && decide (c.size ≤ 3) && ad c) = X3 at *
  generalize (decide (0 ≤ d.size) && decide (d.size ≤ 37) && ad d) = X4 at *
  have HG : Hid (∀ n : Int, n = (a.size : Int) + 1 + 1 + (c.size : Int) + (d.size : Int) → X1 = true → X3 = true → X4 = true → n ≤ 37 → wtV a em c d = .tuple #[.string (a ++ ⟨#[61]⟩ ++ ⟨#[61]⟩ ++ c ++ d), .int .i64 0]) := by
    intro n hn hX1 hX3 hX4 h37
    rw [wtV, wtP_eq, if_pos (HV.out.2 ⟨hX1, hX3, hX4, by rw [HZ.out]; omega⟩), HF.out]
  have HB : Hid (¬ (X1 = true ∧ X3 = true ∧ X4 = true ∧ (a.size : Int) + 1 + 1 + (c.size : Int) + (d.size : Int) ≤ 37) → wtV a em c d = .tuple #[.string em, .int .i64 52]) := by
    intro hn
    rw [wtV, wtP_eq, if_neg]
    intro hh
    have h2 := HV.out.1 hh
    apply hn
    refine ⟨h2.1, h2.2.1, h2.2.2.1, ?_⟩
    have h3 := h2.2.2.2
    rw [HZ.out] at h3
    omega
  have m0 := h1_0 w (Obj.cells #[.string a, .string em, .string c, .string d] 33)
  have b0 := below_one w (Obj.cells #[.string a, .string em, .string c, .string d] 33)
  obtain ⟨r, Hr⟩ : ∃ r, Hid (w.heap.size = r) := ⟨_, rfl⟩
  rw [Hr.out] at m0 b0
  clear HF HZ HV hc
  unfold trkV
  go_enter Try.func23, Try.ntmps23
  go_wp2_with fail
  rw [Hr.out]
  change Calls _ _ _ (w.alloc (Obj.cells #[.string a, .string em, .string c, .string d] 33)) _
  generalize w.alloc (Obj.cells #[.string a, .string em, .string c, .string d] 33) = W at *
  obtain ⟨⟨c0, c1, c2, c3⟩, ⟨f0, f1, f2, f3⟩⟩ := held4 m0
  refine (p1 _).mono ?_
  rintro ee y ⟨rfl, rfl⟩
  go_wp2_with fail
  refine (p3 _).mono ?_
  rintro ee y3 ⟨rfl, rfl⟩
  go_wp2_with fail
  refine (p4 _).mono ?_
  rintro ee y4 ⟨rfl, rfl⟩
  cases X1
  · have HW : Hid (wtV a em c d = .tuple #[.string em, .int .i64 52]) := HB.out (by simp)
    go_wp2
    exact bodyPost_ret (v := .tuple #[.string em, .int .i64 52]) (by simp [results, Try.results23, go_sem]) rfl ⟨congrArg Ending.returned HW.out.symm, by rw [Hr.out]; exact b0⟩
  · cases X3
    · have HW : Hid (wtV a em c d = .tuple #[.string em, .int .i64 52]) := HB.out (by simp)
      go_wp2
      exact bodyPost_ret (v := .tuple #[.string em, .int .i64 52]) (by simp [results, Try.results23, go_sem]) rfl ⟨congrArg Ending.returned HW.out.symm, by rw [Hr.out]; exact b0⟩
    · cases X4
      · have HW : Hid (wtV a em c d = .tuple #[.string em, .int .i64 52]) := HB.out (by simp)
        go_wp2
        exact bodyPost_ret (v := .tuple #[.string em, .int .i64 52]) (by simp [results, Try.results23, go_sem]) rfl ⟨congrArg Ending.returned HW.out.symm, by rw [Hr.out]; exact b0⟩
      · by_cases h37 : (a.size : Int) + 1 + 1 + (c.size : Int) + (d.size : Int) ≤ 37
        · have HW : Hid (wtV a em c d = .tuple #[.string (a ++ ⟨#[61]⟩ ++ ⟨#[61]⟩ ++ c ++ d), .int .i64 0]) := HG.out _ rfl rfl rfl rfl h37
          go_wp2
          exact bodyPost_ret (v := .tuple #[.string (a ++ ⟨#[61]⟩ ++ ⟨#[61]⟩ ++ c ++ d), .int .i64 0]) (by simp [results, Try.results23, go_sem, app_em]) rfl ⟨congrArg Ending.returned HW.out.symm, by rw [Hr.out]; exact b0⟩
        · have HW : Hid (wtV a em c d = .tuple #[.string em, .int .i64 52]) := HB.out (fun hh => h37 hh.2.2.2)
          have h38 : 37 < (a.size : Int) + 1 + 1 + (c.size : Int) + (d.size : Int) := by omega
          go_wp2
          exact bodyPost_ret (v := .tuple #[.string em, .int .i64 52]) (by simp [results, Try.results23, go_sem]) rfl ⟨congrArg Ending.returned HW.out.symm, by rw [Hr.out]; exact b0⟩
set_option maxRecDepth 100000 in
set_option maxHeartbeats 1600000 in
theorem writer_ne (a b d : ByteArray) (w : World) (za : a.size ≤ 1048576) (zb : b.size ≤ 1048576) (zd : d.size ≤ 1048576) (hb : b ≠ em) :
    Calls Try.prog 23 #[.agg (trkV a b em d)] w fun e w' => e = .returned (wtV a b em d) ∧ Below w.heap.size w w' := by
  have HF : Hid (cat a b em d = a ++ ⟨#[61]⟩ ++ b ++ ⟨#[61]⟩ ++ d) := by
    show _ = _
    unfold cat
    rw [om_ne (em_size hb), om_em]
  have HZ : Hid ((cat a b em d).size = a.size + 1 + b.size + 1 + d.size) := by
    show _ = _
    rw [cat_size]
    rw [om_ne (em_size hb), om_em]; rfl
  have p1 := fun y => digits_any a 1 19 y (by omega)
  have p2 := fun y => month_any b y (by omega)
  have eb := em_ne hb
  have p4 := fun y => digits_any d 0 37 y (by omega)
  have HV : Hid (Vd a b em d ↔ ((decide (1 ≤ a.size) && decide (a.size ≤ 19) && ad a) = true ∧ isMon b = true ∧ (decide (0 ≤ d.size) && decide (d.size ≤ 37) && ad d) = true ∧ (cat a b em d).size ≤ 37)) := by
    constructor
    · intro h
      have := h.hs
      rw [cat_size] at this
      refine ⟨?_, ?_, ?_, h.hs⟩
      · rw [h.ha]; simp; exact ⟨h.a1, h.a2⟩
      · exact h.hb.resolve_left hb
      · rw [h.hd]; simp; omega
    · intro h
      simp only [Bool.and_eq_true, decide_eq_true_eq] at h
      exact ⟨h.1.1.1, h.1.1.2, h.1.2, .inr h.2.1, .inl rfl, h.2.2.1.2, h.2.2.2⟩
  generalize (decide (1 ≤ a.size) && decide (a.size ≤ 19) && ad a) = X1 at *
  generalize isMon b = X2 at *
  generalize (decide (0 ≤ d.size) && decide (d.size ≤ 37) && ad d) = X4 at *
  have HG : Hid (∀ n : Int, n = (a.size : Int) + 1 + (b.size : Int) + 1 + (d.size : Int) → X1 = true → X2 = true → X4 = true → n ≤ 37 → wtV a b em d = .tuple #[.string (a ++ ⟨#[61]⟩ ++ b ++ ⟨#[61]⟩ ++ d), .int .i64 0]) := by
    intro n hn hX1 hX2 hX4 h37
    rw [wtV, wtP_eq, if_pos (HV.out.2 ⟨hX1, hX2, hX4, by rw [HZ.out]; omega⟩), HF.out]
  have HB : Hid (¬ (X1 = true ∧ X2 = true ∧ X4 = true ∧ (a.size : Int) + 1 + (b.size : Int) + 1 + (d.size : Int) ≤ 37) → wtV a b em d = .tuple #[.string em, .int .i64 52]) := by
    intro hn
    rw [wtV, wtP_eq, if_neg]
    intro hh
    have h2 := HV.out.1 hh
    apply hn
    refine ⟨h2.1, h2.2.1, h2.2.2.1, ?_⟩
    have h3 := h2.2.2.2
    rw [HZ.out] at h3
    omega
  have m0 := h1_0 w (Obj.cells #[.string a, .string b, .string em, .string d] 33)
  have b0 := below_one w (Obj.cells #[.string a, .string b, .string em, .string d] 33)
  obtain ⟨r, Hr⟩ : ∃ r, Hid (w.heap.size = r) := ⟨_, rfl⟩
  rw [Hr.out] at m0 b0
  clear HF HZ HV hb
  unfold trkV
  go_enter Try.func23, Try.ntmps23
  go_wp2_with fail
  rw [Hr.out]
  change Calls _ _ _ (w.alloc (Obj.cells #[.string a, .string b, .string em, .string d] 33)) _
  generalize w.alloc (Obj.cells #[.string a, .string b, .string em, .string d] 33) = W at *
  obtain ⟨⟨c0, c1, c2, c3⟩, ⟨f0, f1, f2, f3⟩⟩ := held4 m0
  refine (p1 _).mono ?_
  rintro ee y ⟨rfl, rfl⟩
  go_wp2_with fail
  refine (p2 _).mono ?_
  rintro ee y2 ⟨rfl, h2⟩
  have hr8 := (Array.getElem?_eq_some_iff.1 m0).1
  replace m0 := kept h2 m0
  replace b0 := b0.trans (h2.mono (Nat.le_of_lt hr8))
  clear c0 c1 c2 c3 f0 f1 f2 f3 h2 hr8
  obtain ⟨⟨c0, c1, c2, c3⟩, ⟨f0, f1, f2, f3⟩⟩ := held4 m0
  go_wp2_with fail
  refine (p4 _).mono ?_
  rintro ee y4 ⟨rfl, rfl⟩
  cases X1
  · have HW : Hid (wtV a b em d = .tuple #[.string em, .int .i64 52]) := HB.out (by simp)
    go_wp2
    exact bodyPost_ret (v := .tuple #[.string em, .int .i64 52]) (by simp [results, Try.results23, go_sem]) rfl ⟨congrArg Ending.returned HW.out.symm, by rw [Hr.out]; exact b0⟩
  · cases X2
    · have HW : Hid (wtV a b em d = .tuple #[.string em, .int .i64 52]) := HB.out (by simp)
      go_wp2
      exact bodyPost_ret (v := .tuple #[.string em, .int .i64 52]) (by simp [results, Try.results23, go_sem]) rfl ⟨congrArg Ending.returned HW.out.symm, by rw [Hr.out]; exact b0⟩
    · cases X4
      · have HW : Hid (wtV a b em d = .tuple #[.string em, .int .i64 52]) := HB.out (by simp)
        go_wp2
        exact bodyPost_ret (v := .tuple #[.string em, .int .i64 52]) (by simp [results, Try.results23, go_sem]) rfl ⟨congrArg Ending.returned HW.out.symm, by rw [Hr.out]; exact b0⟩
      · by_cases h37 : (a.size : Int) + 1 + (b.size : Int) + 1 + (d.size : Int) ≤ 37
        · have HW : Hid (wtV a b em d = .tuple #[.string (a ++ ⟨#[61]⟩ ++ b ++ ⟨#[61]⟩ ++ d), .int .i64 0]) := HG.out _ rfl rfl rfl rfl h37
          go_wp2
          exact bodyPost_ret (v := .tuple #[.string (a ++ ⟨#[61]⟩ ++ b ++ ⟨#[61]⟩ ++ d), .int .i64 0]) (by simp [results, Try.results23, go_sem, app_em]) rfl ⟨congrArg Ending.returned HW.out.symm, by rw [Hr.out]; exact b0⟩
        · have HW : Hid (wtV a b em d = .tuple #[.string em, .int .i64 52]) := HB.out (fun hh => h37 hh.2.2.2)
          have h38 : 37 < (a.size : Int) + 1 + (b.size : Int) + 1 + (d.size : Int) := by omega
          go_wp2
          exact bodyPost_ret (v := .tuple #[.string em, .int .i64 52]) (by simp [results, Try.results23, go_sem]) rfl ⟨congrArg Ending.returned HW.out.symm, by rw [Hr.out]; exact b0⟩
set_option maxRecDepth 100000 in
set_option maxHeartbeats 1600000 in
theorem writer_nn (a b c d : ByteArray) (w : World) (za : a.size ≤ 1048576) (zb : b.size ≤ 1048576) (zc : c.size ≤ 1048576) (zd : d.size ≤ 1048576) (hb : b ≠ em) (hc : c ≠ em) :
    Calls Try.prog 23 #[.agg (trkV a b c d)] w fun e w' => e = .returned (wtV a b c d) ∧ Below w.heap.size w w' := by
  have HF : Hid (cat a b c d = a ++ ⟨#[61]⟩ ++ b ++ c ++ d) := by
    show _ = _
    unfold cat
    rw [om_ne (em_size hb), om_ne (em_size hc)]
  have HZ : Hid ((cat a b c d).size = a.size + 1 + b.size + c.size + d.size) := by
    show _ = _
    rw [cat_size]
    rw [om_ne (em_size hb), om_ne (em_size hc)]
  have p1 := fun y => digits_any a 1 19 y (by omega)
  have p2 := fun y => month_any b y (by omega)
  have eb := em_ne hb
  have p3 := fun y => digits_any c 3 3 y (by omega)
  have ec := em_ne hc
  have p4 := fun y => digits_any d 0 37 y (by omega)
  have HV : Hid (Vd a b c d ↔ ((decide (1 ≤ a.size) && decide (a.size ≤ 19) && ad a) = true ∧ isMon b = true ∧ (decide (3 ≤ c.size) && decide (c.size ≤ 3) && ad c) = true ∧ (decide (0 ≤ d.size) && decide (d.size ≤ 37) && ad d) = true ∧ (cat a b c d).size ≤ 37)) := by
    constructor
    · intro h
      have := h.hs
      rw [cat_size] at this
      refine ⟨?_, ?_, ?_, ?_, h.hs⟩
      · rw [h.ha]; simp; exact ⟨h.a1, h.a2⟩
      · exact h.hb.resolve_left hb
      · have := h.hc.resolve_left hc
        rw [this.1, this.2]; rfl
      · rw [h.hd]; simp; omega
    · intro h
      simp only [Bool.and_eq_true, decide_eq_true_eq] at h
      exact ⟨h.1.1.1, h.1.1.2, h.1.2, .inr h.2.1, .inr ⟨by have := h.2.2.1; omega, h.2.2.1.2⟩, h.2.2.2.1.2, h.2.2.2.2⟩
  generalize (decide (1 ≤ a.size) && decide (a.size ≤ 19) && ad a) = X1 at *
  generalize isMon b = X2 at *
  generalize (decide (3 ≤ c.size) && decide (c.size ≤ 3) && ad c) = X3 at *
  generalize (decide (0 ≤ d.size) && decide (d.size ≤ 37) && ad d) = X4 at *
  have HG : Hid (∀ n : Int, n = (a.size : Int) + 1 + (b.size : Int) + (c.size : Int) + (d.size : Int) → X1 = true → X2 = true → X3 = true → X4 = true → n ≤ 37 → wtV a b c d = .tuple #[.string (a ++ ⟨#[61]⟩ ++ b ++ c ++ d), .int .i64 0]) := by
    intro n hn hX1 hX2 hX3 hX4 h37
    rw [wtV, wtP_eq, if_pos (HV.out.2 ⟨hX1, hX2, hX3, hX4, by rw [HZ.out]; omega⟩), HF.out]
  have HB : Hid (¬ (X1 = true ∧ X2 = true ∧ X3 = true ∧ X4 = true ∧ (a.size : Int) + 1 + (b.size : Int) + (c.size : Int) + (d.size : Int) ≤ 37) → wtV a b c d = .tuple #[.string em, .int .i64 52]) := by
    intro hn
    rw [wtV, wtP_eq, if_neg]
    intro hh
    have h2 := HV.out.1 hh
    apply hn
    refine ⟨h2.1, h2.2.1, h2.2.2.1, h2.2.2.2.1, ?_⟩
    have h3 := h2.2.2.2.2
    rw [HZ.out] at h3
    omega
  have m0 := h1_0 w (Obj.cells #[.string a, .string b, .string c, .string d] 33)
  have b0 := below_one w (Obj.cells #[.string a, .string b, .string c, .string d] 33)
  obtain ⟨r, Hr⟩ : ∃ r, Hid (w.heap.size = r) := ⟨_, rfl⟩
  rw [Hr.out] at m0 b0
  clear HF HZ HV hb hc
  unfold trkV
  go_enter Try.func23, Try.ntmps23
  go_wp2_with fail
  rw [Hr.out]
  change Calls _ _ _ (w.alloc (Obj.cells #[.string a, .string b, .string c, .string d] 33)) _
  generalize w.alloc (Obj.cells #[.string a, .string b, .string c, .string d] 33) = W at *
  obtain ⟨⟨c0, c1, c2, c3⟩, ⟨f0, f1, f2, f3⟩⟩ := held4 m0
  refine (p1 _).mono ?_
  rintro ee y ⟨rfl, rfl⟩
  go_wp2_with fail
  refine (p2 _).mono ?_
  rintro ee y2 ⟨rfl, h2⟩
  have hr8 := (Array.getElem?_eq_some_iff.1 m0).1
  replace m0 := kept h2 m0
  replace b0 := b0.trans (h2.mono (Nat.le_of_lt hr8))
  clear c0 c1 c2 c3 f0 f1 f2 f3 h2 hr8
  obtain ⟨⟨c0, c1, c2, c3⟩, ⟨f0, f1, f2, f3⟩⟩ := held4 m0
  go_wp2_with fail
  refine (p3 _).mono ?_
  rintro ee y3 ⟨rfl, rfl⟩
  go_wp2_with fail
  refine (p4 _).mono ?_
  rintro ee y4 ⟨rfl, rfl⟩
  cases X1
  · have HW : Hid (wtV a b c d = .tuple #[.string em, .int .i64 52]) := HB.out (by simp)
    go_wp2
    exact bodyPost_ret (v := .tuple #[.string em, .int .i64 52]) (by simp [results, Try.results23, go_sem]) rfl ⟨congrArg Ending.returned HW.out.symm, by rw [Hr.out]; exact b0⟩
  · cases X2
    · have HW : Hid (wtV a b c d = .tuple #[.string em, .int .i64 52]) := HB.out (by simp)
      go_wp2
      exact bodyPost_ret (v := .tuple #[.string em, .int .i64 52]) (by simp [results, Try.results23, go_sem]) rfl ⟨congrArg Ending.returned HW.out.symm, by rw [Hr.out]; exact b0⟩
    · cases X3
      · have HW : Hid (wtV a b c d = .tuple #[.string em, .int .i64 52]) := HB.out (by simp)
        go_wp2
        exact bodyPost_ret (v := .tuple #[.string em, .int .i64 52]) (by simp [results, Try.results23, go_sem]) rfl ⟨congrArg Ending.returned HW.out.symm, by rw [Hr.out]; exact b0⟩
      · cases X4
        · have HW : Hid (wtV a b c d = .tuple #[.string em, .int .i64 52]) := HB.out (by simp)
          go_wp2
          exact bodyPost_ret (v := .tuple #[.string em, .int .i64 52]) (by simp [results, Try.results23, go_sem]) rfl ⟨congrArg Ending.returned HW.out.symm, by rw [Hr.out]; exact b0⟩
        · by_cases h37 : (a.size : Int) + 1 + (b.size : Int) + (c.size : Int) + (d.size : Int) ≤ 37
          · have HW : Hid (wtV a b c d = .tuple #[.string (a ++ ⟨#[61]⟩ ++ b ++ c ++ d), .int .i64 0]) := HG.out _ rfl rfl rfl rfl rfl h37
            go_wp2
            exact bodyPost_ret (v := .tuple #[.string (a ++ ⟨#[61]⟩ ++ b ++ c ++ d), .int .i64 0]) (by simp [results, Try.results23, go_sem]) rfl ⟨congrArg Ending.returned HW.out.symm, by rw [Hr.out]; exact b0⟩
          · have HW : Hid (wtV a b c d = .tuple #[.string em, .int .i64 52]) := HB.out (fun hh => h37 hh.2.2.2.2)
            have h38 : 37 < (a.size : Int) + 1 + (b.size : Int) + (c.size : Int) + (d.size : Int) := by omega
            go_wp2
            exact bodyPost_ret (v := .tuple #[.string em, .int .i64 52]) (by simp [results, Try.results23, go_sem]) rfl ⟨congrArg Ending.returned HW.out.symm, by rw [Hr.out]; exact b0⟩
theorem writer_any (a b c d : ByteArray) (w : World) (za : a.size ≤ 1048576) (zb : b.size ≤ 1048576) (zc : c.size ≤ 1048576) (zd : d.size ≤ 1048576) :
    Calls Try.prog 23 #[.agg (trkV a b c d)] w fun e w' => e = .returned (wtV a b c d) ∧ Below w.heap.size w w' := by
  by_cases hb : b = Kx.em <;> by_cases hc : c = Kx.em
  · subst hb hc; exact writer_ee a d w za zd
  · subst hb; exact writer_en a c d w za zc zd hc
  · subst hc; exact writer_ne a b d w za zb zd hb
  · exact writer_nn a b c d w za zb zc zd hb hc
end Go.Proofs.Ytbdkflfgmdcciaa.Ky
