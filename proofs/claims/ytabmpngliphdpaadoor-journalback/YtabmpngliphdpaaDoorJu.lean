/- journal's cutter: cut. -/
import Derived.Test.YtabmpngliphdpaaDoorJr
import Derived.Test.YtabmpngliphdpaaDoorJt
import Derived.Deep.Onto
namespace Go.Proofs.YtabmpngliphdpaaDoor.Ju
set_option linter.unusedVariables false
set_option linter.unusedSimpArgs false
open Go.RowKit Go.Conc Lib0 Kb Ja Jb Jl Jm Jn Jo Jp Jq Jr
attribute [local go_sem] Oper.semAt_some
/-- a cutter in memory, its channels empty -/
structure Cu (w : World) (g : Nat) (b : ByteArray) (at' n : Nat) (rc ec : Nat) : Prop where
  row : w.heap[g]? = some (.cells #[.string b, .int .i64 (at' : Int), .int .i64 (n : Int), .chan (some rc), .chan (some ec)] 139 (0, 0))
  rch : ∃ s, w.heap[rc]? = some (.chan 1 #[] false s s false)
  ech : ∃ s, w.heap[ec]? = some (.chan 1 #[] false s s false)
  ne : rc ≠ ec
/-- all but the cutter and its channels stay -/
structure Oc (g rc ec : Nat) (w w' : World) : Prop where
  os : w'.os = w.os
  tape : w'.tape = w.tape
  output : w'.output = w.output
  size : w.heap.size ≤ w'.heap.size
  block : ∀ k, k < w.heap.size → k ≠ g → k ≠ rc → k ≠ ec → w'.heap[k]? = w.heap[k]?
theorem Oc.refl (g rc ec : Nat) (w : World) : Oc g rc ec w w := ⟨rfl, rfl, rfl, Nat.le_refl _, fun _ _ _ _ _ => rfl⟩
theorem Oc.trans {g rc ec : Nat} {a b c : World} (h : Oc g rc ec a b) (k : Oc g rc ec b c) : Oc g rc ec a c :=
  ⟨k.os.trans h.os, k.tape.trans h.tape, k.output.trans h.output, Nat.le_trans h.size k.size, fun i hi h1 h2 h3 => (k.block i (Nat.lt_of_lt_of_le hi h.size) h1 h2 h3).trans (h.block i hi h1 h2 h3)⟩
theorem Oc.of_gb {g rc ec : Nat} {a b : World} (h : a.grownBy b (some g)) : Oc g rc ec a b :=
  ⟨h.os, h.tape, h.output, h.size, fun i hi h1 _ _ => h.block i hi (fun e => h1 (Option.some.inj e))⟩
theorem Oc.of_below {g rc ec : Nat} {a b : World} (h : Below a.heap.size a b) : Oc g rc ec a b :=
  ⟨h.os, h.tape, h.output, h.size, fun i hi _ _ _ => h.block i hi⟩
theorem setChan_ne (w : World) (c c' cap : Nat) (buf : Array Value) (closed : Bool) (s r : Nat) (tm : Bool) (h : c ≠ c') : (w.setChan c cap buf closed s r tm).heap[c']? = w.heap[c']? := by
  simp [World.setChan, Array.getElem?_setIfInBounds_ne h]
theorem Oc.of_chan {g rc ec : Nat} (w : World) (c cap : Nat) (buf : Array Value) (closed : Bool) (s r : Nat) (tm : Bool) (hc : c = rc ∨ c = ec) : Oc g rc ec w (w.setChan c cap buf closed s r tm) :=
  ⟨rfl, rfl, rfl, by simp [World.setChan], fun i _ _ h2 h3 => setChan_ne _ _ _ _ _ _ _ _ _ (by rcases hc with e | e <;> subst e <;> exact fun e => by first | exact h2 e.symm | exact h3 e.symm)⟩
theorem rcd_len {l : List UInt8} {k : Int} {z : Nat} (h : rcd l k = some z) : 12 + z ≤ l.length ∧ z ≤ 10000000 := by
  unfold rcd at h
  split at h
  · cases h
  · rename_i hn
    cases h
    have h1 : ¬ l.length < 12 := fun e => hn (.inl e)
    have h2 : ¬ 10000000 < wl (l.drop 4) := fun e => hn (.inr (.inr (.inl e)))
    have h3 : ¬ l.length - 12 < wl (l.drop 4) := fun e => hn (.inr (.inr (.inr (.inl e))))
    omega
/-- a record lies in its channel -/
structure Got (w w' : World) (g : Nat) (b : ByteArray) (at' n rc ec z : Nat) : Prop where
  row : w'.heap[g]? = some (.cells #[.string b, .int .i64 ((at' + (12 + z) : Nat) : Int), .int .i64 ((n + 1 : Nat) : Int), .chan (some rc), .chan (some ec)] 139 (0, 0))
  rch : ∃ s v M, w'.heap[rc]? = some (.chan 1 #[.agg (#[.int .i64 ((n + 1 : Nat) : Int)] ++ evV (some (((b.data.toList.drop at').drop 8).take z)) ++ #[v, .string ((b.extract at' b.size).extract 0 (12 + z))])] false (s + 1) s false) ∧ w'.ownsRow w.heap.size 85 5 v M (osV (evR (some (((b.data.toList.drop at').drop 8).take z))))
  ech : ∃ s, w'.heap[ec]? = some (.chan 1 #[] false s s false)
  oc : Oc g rc ec w w'
set_option maxRecDepth 100000 in
set_option maxHeartbeats 1600000 in
theorem cut_ok {w : World} {g : Nat} {b : ByteArray} {at' n rc ec : Nat} (h : Cu w g b at' n rc ec) (hH : Hal w) (hb : b.size ≤ 140737488355328) (ha : at' ≤ b.size) (hn : n ≤ at') {z : Nat} (hz : rcd (b.data.toList.drop at') ((n : Int) + 1) = some z) :
    Calls Tryd.prog 65 #[.pointer (some ⟨g, 0, none⟩)] w fun e w' => e = .returned (.tuple #[]) ∧ Got w w' g b at' n rc ec z := by
  have hr := h.row
  have c0 : w.cell? ⟨g, 0, none⟩ = some (.string b) := by simp [World.cell?, hr]
  have c1 : w.cell? ⟨g, 1, none⟩ = some (.int .i64 (at' : Int)) := by simp [World.cell?, hr]
  have gl : g < w.heap.size := (Array.getElem?_eq_some_iff.1 hr).1
  have q1 : (at' : Int) ≤ (b.size : Int) := by omega
  clear hr
  have HC : Hid (Cu w g b at' n rc ec) := h
  go_enter Tryd.func65, Tryd.ntmps65
  go_wp2_with fail
  refine Ql.region_cl (by kernel_rfl) (by kernel_rfl) ?_
  try dsimp only [Act.put]
  repeat (first | go_big_quiet_skip | (go_big_quiet_want; go_big_quiet_op; first | go_big_quiet_on | (refine ⟨_, fun _ _ => rfl, ?_⟩; go_big_quiet_on) | (refine ⟨_, fun _ _ => ⟨rfl, rfl⟩, ?_⟩; go_big_quiet_on)) | (refine wpQuiet_step (fun K hK => ?_); first
    | (refine Ql.q_cell (by rfl) 9 _ rfl g 0 rfl _ c0 gl (fun y => Tryd.isAgg9 y) (hK _ ?_); clear hK K; simp only [Act.put, List.setIfInBounds_toArray, List.set_cons_succ, List.set_cons_zero])
    | (refine Ql.q_cell (by rfl) 3 _ rfl g 1 rfl _ c1 gl (fun y => Tryd.isAgg3 y) (hK _ ?_); clear hK K; simp only [Act.put, List.setIfInBounds_toArray, List.set_cons_succ, List.set_cons_zero])
    | fail))
  refine wpQuiet_nil ?_
  intro y hy
  have hr1 : y.heap[g]? = some (.cells #[.string b, .int .i64 (at' : Int), .int .i64 (n : Int), .chan (some rc), .chan (some ec)] 139 (0, 0)) := kept hy HC.out.row
  have d2 : y.cell? ⟨g, 2, none⟩ = some (.int .i64 (n : Int)) := by simp [World.cell?, hr1]
  have dl : g < y.heap.size := (Array.getElem?_eq_some_iff.1 hr1).1
  have q2 : (n : Int) ≤ 140737488355328 := by omega
  have HFO := firstOf_any (b.extract at' b.size) (by rw [drop_size]; omega) ((n : Int) + 1) y (hal_next hH hy)
  have HF : Hid (Calls Tryd.prog 72 #[.string (b.extract at' b.size), .int .i64 ((n : Int) + 1)] y (Po y (b.extract at' b.size) ((n : Int) + 1))) := HFO
  have HY : Hid (Below w.heap.size w y) := hy
  have HZ : Hid (rcd (b.data.toList.drop at') ((n : Int) + 1) = some z ∧ b.size ≤ 140737488355328 ∧ at' ≤ b.size ∧ n ≤ at') := ⟨hz, hb, ha, hn⟩
  clear hr1 HFO hy hz hb ha hn hH h c0 c1 gl
  go_wp2_with fail
  refine HF.out.mono ?_
  rintro e y2 ⟨⟨c, rfl, hgood, hbad⟩, hy2⟩
  rw [ext_drop, HZ.out.1] at hgood
  obtain ⟨v, M, rfl, ho⟩ := hgood z rfl
  obtain ⟨so, cap, rfl⟩ := Bd.owns_sl ho
  obtain ⟨body, hbody⟩ : ∃ l, ((b.data.toList.drop at').drop 8).take z = l := ⟨_, rfl⟩
  rw [hbody] at ho ⊢
  obtain ⟨n1, n2, n3, tx, hT⟩ : ∃ n1 n2 n3 tx, evV (some body) = #[.int .i64 n1, .int .i64 n2, .int .i64 n3, .string tx] := ⟨_, _, _, _, rfl⟩
  obtain ⟨R, hR⟩ : ∃ R, (b.extract at' b.size).extract 0 (12 + z) = R := ⟨_, rfl⟩
  have hcell : #[Value.int .i64 ((n : Int) + 1)] ++ evV (some body) ++ #[.slice so M cap, .string ((b.extract at' b.size).extract 0 (12 + z))] = #[.int .i64 ((n : Int) + 1), .int .i64 n1, .int .i64 n2, .int .i64 n3, .string tx, .slice so M cap, .string R] := by rw [hT, hR]; rfl
  rw [hcell, ext_drop, HZ.out.1]
  obtain ⟨W1, HW1⟩ : ∃ W, Hid (y2.alloc (.cells #[.int .i64 ((n : Int) + 1), .int .i64 n1, .int .i64 n2, .int .i64 n3, .string tx, .slice so M cap, .string R] 107) = W) := ⟨_, rfl⟩
  have HO : Hid (y2.ownsRow y.heap.size 85 5 (.slice so M cap) M (osV (evR (some body)))) := ho
  have HY2 : Hid (Below y.heap.size y y2) := hy2
  have HT : Hid (evV (some body) = #[.int .i64 n1, .int .i64 n2, .int .i64 n3, .string tx] ∧ ((b.data.toList.drop at').drop 8).take z = body ∧ (b.extract at' b.size).extract 0 (12 + z) = R) := ⟨hT, hbody, hR⟩
  clear hgood hbad hy2 ho hbody hT hR hcell d2 dl
  simp only [Option.isSome_some]
  go_wp2_with (first | (rw [HW1.out]) | fail)
  have hb1 : Below y2.heap.size y2 W1 := HW1.out ▸ below_one _ _
  have hb2 : Below w.heap.size w W1 := (HY.out.trans (HY2.out.mono HY.out.size)).trans (hb1.mono (Nat.le_trans HY.out.size HY2.out.size))
  have hx1 : W1.heap[y2.heap.size]? = some (.cells #[.int .i64 ((n : Int) + 1), .int .i64 n1, .int .i64 n2, .int .i64 n3, .string tx, .slice so M cap, .string R] 107 (0, 0)) := HW1.out ▸ h1_0 _ _
  have hr1 : W1.heap[g]? = some (.cells #[.string b, .int .i64 (at' : Int), .int .i64 (n : Int), .chan (some rc), .chan (some ec)] 139 (0, 0)) := kept hb2 HC.out.row
  have HGY : Hid (g ≠ y2.heap.size) := by
    have h1 := (Array.getElem?_eq_some_iff.1 HC.out.row).1
    have h2 := HY.out.size; have h3 := HY2.out.size
    show g ≠ _
    omega
  have k1 : W1.cell? ⟨g, 1, none⟩ = some (.int .i64 (at' : Int)) := by simp [World.cell?, hr1]
  have kl : g < W1.heap.size := (Array.getElem?_eq_some_iff.1 hr1).1
  have k6 : W1.cell? ⟨y2.heap.size, 6, none⟩ = some (.string R) := by simp [World.cell?, hx1]
  have kr : y2.heap.size < W1.heap.size := (Array.getElem?_eq_some_iff.1 hx1).1
  obtain ⟨RS, hRS⟩ : ∃ RS, R.size = RS := ⟨_, rfl⟩
  have hRS2 : RS ≤ 140737488355328 := by
    rw [← hRS, ← HT.out.2.2, ByteArray.size_extract, ByteArray.size_extract]
    have := HZ.out.2.1; omega
  have q3 : (at' : Int) ≤ 140737488355328 := by have := HZ.out; omega
  have q4 : (RS : Int) ≤ 140737488355328 := by omega
  have HHX : Hid (Below w.heap.size w W1) := hb2
  have HX1 : Hid (W1.heap[y2.heap.size]? = some (.cells #[.int .i64 ((n : Int) + 1), .int .i64 n1, .int .i64 n2, .int .i64 n3, .string tx, .slice so M cap, .string R] 107 (0, 0))) := hx1
  have HR1 : Hid (W1.heap[g]? = some (.cells #[.string b, .int .i64 (at' : Int), .int .i64 (n : Int), .chan (some rc), .chan (some ec)] 139 (0, 0))) := hr1
  have HO1 : Hid (W1.ownsRow y.heap.size 85 5 (.slice so M cap) M (osV (evR (some body)))) := Bd.owns_keep HO.out fun p hp => hb1.block p (HO.out.lt p hp).2
  clear hb1 hb2 hx1 hr1 hRS2
  refine Ql.region_lastL (C := Ql.Cl W1) (by kernel_rfl) rfl (by kernel_rfl) (by kernel_rfl) (by kernel_rfl) rfl ((Below.refl _ _).drew) ?_
  dsimp only [List.dropLast]
  repeat (first | go_big_quiet_skip | (go_big_quiet_want; go_big_quiet_op; first | go_big_quiet_on | (refine ⟨_, fun _ _ => rfl, ?_⟩; go_big_quiet_on) | (refine ⟨_, fun _ _ => ⟨rfl, rfl⟩, ?_⟩; go_big_quiet_on)) | (refine wpQuiet_step (fun K hK => ?_); first
    | (refine Ql.q_cell (by rfl) 3 _ rfl g 1 rfl _ k1 kl (fun y => Tryd.isAgg3 y) (hK _ ?_); clear hK K; simp only [Act.put, List.setIfInBounds_toArray, List.set_cons_succ, List.set_cons_zero])
    | (refine Ql.q_cell (by rfl) 9 _ rfl (y2.heap.size) 6 rfl _ k6 kr (fun y => Tryd.isAgg9 y) (hK _ ?_); clear hK K; simp only [Act.put, List.setIfInBounds_toArray, List.set_cons_succ, List.set_cons_zero])
    | fail))
  refine wpQuiet_nil ?_
  intro y4 hy4
  have hr4 : y4.heap[g]? = some (.cells #[.string b, .int .i64 (at' : Int), .int .i64 (n : Int), .chan (some rc), .chan (some ec)] 139 (0, 0)) := kept hy4 HR1.out
  have m1 : y4.cell? ⟨g, 1, none⟩ = some (.int .i64 (at' : Int)) := by simp [World.cell?, hr4]
  have mf : y4.frozen? ⟨g, 1, none⟩ = false := by simp [World.frozen?, hr4]
  have ml : g < y4.heap.size := (Array.getElem?_eq_some_iff.1 hr4).1
  have HR4 : Hid (y4.heap[g]? = some (.cells #[.string b, .int .i64 (at' : Int), .int .i64 (n : Int), .chan (some rc), .chan (some ec)] 139 (0, 0))) := hr4
  have HY4 : Hid (Below W1.heap.size W1 y4) := hy4
  clear hr4 hy4 k1 kl k6 kr
  go_simp
  obtain ⟨W5, HW5⟩ : ∃ W, Hid (y4.setCell ⟨g, 1, none⟩ (.int .i64 ((at' : Int) + (RS : Int))) = W) := ⟨_, rfl⟩
  rw [HW5.out]
  have hr5 : W5.heap[g]? = some (.cells #[.string b, .int .i64 ((at' : Int) + (RS : Int)), .int .i64 (n : Int), .chan (some rc), .chan (some ec)] 139 (0, 0)) := by rw [← HW5.out, Jg.setCell_heap HR4.out]; rfl
  have l2 : W5.cell? ⟨g, 2, none⟩ = some (.int .i64 (n : Int)) := by simp [World.cell?, hr5]
  have lf : W5.frozen? ⟨g, 2, none⟩ = false := by simp [World.frozen?, hr5]
  have ll : g < W5.heap.size := (Array.getElem?_eq_some_iff.1 hr5).1
  have HG5 : Hid (w.grownBy W5 (some g)) := by
    refine HW5.out ▸ gb_trans ?_ (gb_set _ _ _ _)
    have h9 : Below w.heap.size w y4 := HHX.out.trans (HY4.out.mono HHX.out.size)
    exact ⟨h9.os, h9.tape, h9.output, h9.size, fun k hk _ => h9.block k hk⟩
  have HX5 : Hid (W5.heap[y2.heap.size]? = some (.cells #[.int .i64 ((n : Int) + 1), .int .i64 n1, .int .i64 n2, .int .i64 n3, .string tx, .slice so M cap, .string R] 107 (0, 0))) := by
    show _ = _
    rw [← HW5.out, Bd.scne HGY.out]
    exact kept HY4.out HX1.out
  have HO5 : Hid (W5.ownsRow y.heap.size 85 5 (.slice so M cap) M (osV (evR (some body)))) := Bd.owns_keep HO1.out fun p hp => by
    rw [← HW5.out, Bd.scne (by
      have h1 := (HO1.out.lt p hp).1
      have h2 := (Array.getElem?_eq_some_iff.1 HC.out.row).1
      have h3 := HY.out.size
      omega)]
    exact HY4.out.block p (HO1.out.lt p hp).2
  have HR5 : Hid (W5.heap[g]? = some (.cells #[.string b, .int .i64 ((at' : Int) + (RS : Int)), .int .i64 (n : Int), .chan (some rc), .chan (some ec)] 139 (0, 0))) := hr5
  obtain ⟨W6, HW6⟩ : ∃ W, Hid (W5.setCell ⟨g, 2, none⟩ (.int .i64 ((n : Int) + 1)) = W) := ⟨_, rfl⟩
  clear hr5 m1 mf ml
  go_wp2_with (first | (rw [HW6.out]) | fail)
  have hr6 : W6.heap[g]? = some (.cells #[.string b, .int .i64 ((at' : Int) + (RS : Int)), .int .i64 ((n : Int) + 1), .chan (some rc), .chan (some ec)] 139 (0, 0)) := by rw [← HW6.out, Jg.setCell_heap HR5.out]; rfl
  have HG6 : Hid (w.grownBy W6 (some g)) := HW6.out ▸ gb_trans HG5.out (gb_set _ _ _ _)
  have hx6 : W6.heap[y2.heap.size]? = some (.cells #[.int .i64 ((n : Int) + 1), .int .i64 n1, .int .i64 n2, .int .i64 n3, .string tx, .slice so M cap, .string R] 107 (0, 0)) := by
    rw [← HW6.out, Bd.scne HGY.out]
    exact HX5.out
  have HO6 : Hid (W6.ownsRow y.heap.size 85 5 (.slice so M cap) M (osV (evR (some body)))) := Bd.owns_keep HO5.out fun p hp => by
    rw [← HW6.out, Bd.scne (by
      have h1 := (HO1.out.lt p hp).1
      have h2 := (Array.getElem?_eq_some_iff.1 HC.out.row).1
      have h3 := HY.out.size
      omega)]
  have k3 : W6.cell? ⟨g, 3, none⟩ = some (.chan (some rc)) := by simp [World.cell?, hr6]
  have kl : g < W6.heap.size := (Array.getElem?_eq_some_iff.1 hr6).1
  have zr : (Tryd.prog.info? 107).map (·.size) = some 7 := by kernel_rfl
  have HR6 : Hid (W6.heap[g]? = some (.cells #[.string b, .int .i64 ((at' : Int) + (RS : Int)), .int .i64 ((n : Int) + 1), .chan (some rc), .chan (some ec)] 139 (0, 0))) := hr6
  clear hr6 l2 lf ll
  refine Jt.region_sendQ (C := Ql.Cl W6) (by kernel_rfl) rfl rfl rfl (by kernel_rfl) (by kernel_rfl) (by kernel_rfl) (by kernel_rfl) ((Below.refl _ _).drew) ?_
  dsimp only [List.dropLast, Jt.harm, List.cons_append, List.nil_append]
  repeat (first | go_big_quiet_skip | (go_big_quiet_want; go_big_quiet_op; first | go_big_quiet_on | (refine ⟨_, fun _ _ => rfl, ?_⟩; go_big_quiet_on) | (refine ⟨_, fun _ _ => ⟨rfl, rfl⟩, ?_⟩; go_big_quiet_on)) | (refine wpQuiet_step (fun K hK => ?_); first
    | (refine Ql.q_cell (by rfl) 136 _ rfl g 3 rfl _ k3 kl (fun y => Tryd.isAgg136 y) (hK _ ?_); clear hK K; simp only [Act.put, List.setIfInBounds_toArray, List.set_cons_succ, List.set_cons_zero])
    | (refine Ql.q_row (by rfl) 107 _ rfl (y2.heap.size) rfl _ _ _ _ hx6 Tryd.underlying107 rfl zr (hK _ ?_); clear hK K; simp only [Act.put, List.setIfInBounds_toArray, List.set_cons_succ, List.set_cons_zero])
    | fail))
  refine wpQuiet_nil ?_
  intro y7 hy7
  obtain ⟨sr, hsr⟩ := HC.out.rch
  obtain ⟨se, hse⟩ := HC.out.ech
  have hg7 : w.grownBy y7 (some g) := gb_below HG6.out hy7
  have hgl := (Array.getElem?_eq_some_iff.1 HC.out.row).1
  have hrl := (Array.getElem?_eq_some_iff.1 hsr).1
  have hel := (Array.getElem?_eq_some_iff.1 hse).1
  have hrg : rc ≠ g := fun e => by subst e; rw [HC.out.row] at hsr; cases hsr
  have heg : ec ≠ g := fun e => by subst e; rw [HC.out.row] at hse; cases hse
  have hr7 : y7.heap[rc]? = some (.chan 1 #[] false sr sr false) := (hg7.block rc hrl (fun e => hrg (Option.some.inj e))).trans hsr
  have he7 : y7.heap[ec]? = some (.chan 1 #[] false se se false) := (hg7.block ec hel (fun e => heg (Option.some.inj e))).trans hse
  have hl := rcd_len HZ.out.1
  have hRz : RS = 12 + z := by
    rw [← hRS, ← HT.out.2.2, size_list, ext_mid, ext_drop, List.length_take, List.drop_zero]
    have := HZ.out; omega
  have HFIN : Hid (Got w (y7.setChan rc 1 #[.agg #[.int .i64 ((n : Int) + 1), .int .i64 n1, .int .i64 n2, .int .i64 n3, .string tx, .slice so M cap, .string R]] false (sr + 1) sr false) g b at' n rc ec z) := by
    refine ⟨?_, ⟨sr, .slice so M cap, M, ?_, ?_⟩, ⟨se, ?_⟩, ?_⟩
    · rw [setChan_ne _ _ _ _ _ _ _ _ _ hrg]
      have h9 := kept hy7 HR6.out
      rw [h9, show ((at' + (12 + z) : Nat) : Int) = (at' : Int) + (RS : Int) by omega, show ((n + 1 : Nat) : Int) = (n : Int) + 1 by omega]
    · rw [heap_setChan _ _ _ _ _ _ _ _ (Nat.lt_of_lt_of_le hrl hg7.size), HT.out.2.1, HT.out.1, HT.out.2.2, show ((n + 1 : Nat) : Int) = (n : Int) + 1 by omega]
      rfl
    · rw [HT.out.2.1]
      have hO7 : y7.ownsRow y.heap.size 85 5 (.slice so M cap) M (osV (evR (some body))) := Bd.owns_keep HO6.out fun p hp => hy7.block p (HO6.out.lt p hp).2
      exact (Bd.owns_keep hO7 fun p hp => setChan_ne _ _ _ _ _ _ _ _ _ (fun e => by subst e; have := (hO7.lt _ hp).1; have := HY.out.size; omega)).mono HY.out.size
    · rw [setChan_ne _ _ _ _ _ _ _ _ _ HC.out.ne]; exact he7
    · exact (Oc.of_gb hg7).trans (Oc.of_chan _ _ _ _ _ _ _ _ (.inl rfl))
  refine ⟨rc, 1, sr, sr, #[], .agg #[.int .i64 ((n : Int) + 1), .int .i64 n1, .int .i64 n2, .int .i64 n3, .string tx, .slice so M cap, .string R], .tuple #[], false, y7, by simp [execOp, scase, Act.eval], hr7, by decide, ?_⟩
  go_end0
  exact ⟨rfl, HFIN.out⟩
end Go.Proofs.YtabmpngliphdpaaDoor.Ju
