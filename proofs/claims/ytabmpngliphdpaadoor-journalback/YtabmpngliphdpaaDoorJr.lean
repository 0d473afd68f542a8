/- journal.firstOf. -/
import Derived.Test.YtabmpngliphdpaaDoorJq
namespace Go.Proofs.YtabmpngliphdpaaDoor.Jr
set_option linter.unusedVariables false
set_option linter.unusedSimpArgs false
open Go.RowKit Lib0 Kb Ja Jb Jk Jl Jm Jn Jo Jp Jq
attribute [local go_sem] Oper.semAt_some
theorem gHal : Tryd.prog.globalNamed "turnstile/journal.halves" = some 0 := by kernel_rfl
theorem hal_next {w y : World} (h : Hal w) (k : Below w.heap.size w y) : Hal y := by
  unfold Hal Lib.TabIs World.var? at *
  rw [gHal] at *
  simp only [Option.bind_some] at *
  cases ho : w.heap[0]? with
  | none => rw [ho] at h; simp at h
  | some o => rw [k.block _ (Array.getElem?_eq_some_iff.1 ho).1]; exact h
theorem keepB' {B : Nat} {a b c : World} (h : Below B a b) (k : Below b.heap.size b c) (hB : B ≤ b.heap.size) : Below B a c := h.trans (k.mono hB)
/-- the number that the first four bytes say -/
def wl (l : List UInt8) : Nat := n4 (l.getD 0 0).toNat (l.getD 1 0).toNat (l.getD 2 0).toNat (l.getD 3 0).toNat
theorem wl_lt (l : List UInt8) : wl l < 4294967296 := by
  have h0 := (l.getD 0 0).toNat_lt
  have h1 := (l.getD 1 0).toNat_lt
  have h2 := (l.getD 2 0).toNat_lt
  have h3 := (l.getD 3 0).toNat_lt
  unfold wl n4; omega
theorem at_list (s : ByteArray) (i : Nat) (h : i < s.size) : s[i] = s.data.toList.getD i 0 := by
  have h' : i < s.data.toList.length := by rw [← size_list]; exact h
  have h9 : s.data.toList.getD i 0 = s.data.toList[i] := by rw [List.getD_eq_getElem?_getD, List.getElem?_eq_getElem h']; rfl
  rw [h9]; simp; rfl
theorem wordOf_l (s : ByteArray) (h4 : 4 ≤ s.size) (w : World) : Calls Tryd.prog 74 #[.string s] w fun e w' => e = .returned (.int .u32 (wl s.data.toList : Int)) ∧ Below w.heap.size w w' := by
  have h := wordOf_any s h4 w
  rw [at_list s 0 (by omega), at_list s 1 (by omega), at_list s 2 (by omega), at_list s 3 (by omega)] at h
  exact h
/-- a record: how long its body is -/
def rcd (l : List UInt8) (k : Int) : Option Nat :=
  if l.length < 12 ∨ (wl l : Int) ≠ k ∨ 10000000 < wl (l.drop 4) ∨ l.length - 12 < wl (l.drop 4) ∨ isB ((l.drop 8).take (wl (l.drop 4))) = false ∨ wl (l.drop (8 + wl (l.drop 4))) ≠ sumN (l.take (8 + wl (l.drop 4))) then none else some (wl (l.drop 4))
/-- no record -/
def rcZ : Array Value := #[.int .i64 0, .int .i64 0, .int .i64 0, .int .i64 0, .string ⟨#[]⟩, .slice none 0 0, .string ⟨#[]⟩]
theorem res_cell7 {g : Nat} (x : World) (c : Array Value) (b : Bool) (tm : Array Value) (h2 : tm.getD 4 undef = .pointer (some ⟨g, 0, none⟩)) (h3 : tm.getD 5 undef = .bool b) (hc : c.size = 7) (hx : x.heap[g]? = some (.cells c 107 (0, 0))) : (results Tryd.f72 tm).run Tryd.prog x = .ok (.tuple #[.agg c, .bool b]) x := by
  have h2' : tm[4]?.getD undef = .pointer (some ⟨g, 0, none⟩) := by simpa using h2
  have h3' : tm[5]?.getD undef = .bool b := by simpa using h3
  obtain ⟨a0, a1, a2, a3, a4, a5, a6, rfl⟩ : ∃ a0 a1 a2 a3 a4 a5 a6, c = #[a0, a1, a2, a3, a4, a5, a6] := by
    obtain ⟨L⟩ := c
    match L, hc with
    | [a0, a1, a2, a3, a4, a5, a6], _ => exact ⟨a0, a1, a2, a3, a4, a5, a6, rfl⟩
  have c0 : x.cell? ⟨g, 0, none⟩ = some a0 := by simp [World.cell?, hx]
  have c1 : x.cell? ⟨g, 1, none⟩ = some a1 := by simp [World.cell?, hx]
  have c2 : x.cell? ⟨g, 2, none⟩ = some a2 := by simp [World.cell?, hx]
  have c3 : x.cell? ⟨g, 3, none⟩ = some a3 := by simp [World.cell?, hx]
  have c4 : x.cell? ⟨g, 4, none⟩ = some a4 := by simp [World.cell?, hx]
  have c5 : x.cell? ⟨g, 5, none⟩ = some a5 := by simp [World.cell?, hx]
  have c6 : x.cell? ⟨g, 6, none⟩ = some a6 := by simp [World.cell?, hx]
  simp [results, Tryd.results72, go_sem, h2', h3', asAddr, c0, c1, c2, c3, c4, c5, c6]
/-- what firstOf answers -/
def Po (w : World) (s : ByteArray) (k : Int) (e : Ending) (w' : World) : Prop :=
  (∃ c, e = .returned (.tuple #[.agg c, .bool (rcd s.data.toList k).isSome]) ∧ (∀ z, rcd s.data.toList k = some z → ∃ v N, c = #[.int .i64 k] ++ evV (some ((s.data.toList.drop 8).take z)) ++ #[v, .string (s.extract 0 (12 + z))] ∧ w'.ownsRow w.heap.size 85 5 v N (osV (evR (some ((s.data.toList.drop 8).take z))))) ∧ (rcd s.data.toList k = none → c = rcZ)) ∧ Below w.heap.size w w'
theorem po_bad {w x : World} {s : ByteArray} {k : Int} (h : rcd s.data.toList k = none) (hb : Below w.heap.size w x) : Po w s k (.returned (.tuple #[.agg rcZ, .bool false])) x := by
  refine ⟨⟨rcZ, ?_, ?_, ?_⟩, hb⟩
  · rw [h]; rfl
  · intro z hz; rw [h] at hz; cases hz
  · intro _; rfl
theorem drop_size (s : ByteArray) (n : Nat) : (s.extract n s.size).size = s.size - n := by rw [ByteArray.size_extract]; omega
theorem ext_mid (s : ByteArray) (a b : Nat) : (s.extract a b).data.toList = (s.data.toList.drop a).take (b - a) := by simp [ByteArray.data_extract]
set_option maxRecDepth 100000 in
set_option maxHeartbeats 1600000 in
theorem firstOf_any (s : ByteArray) (hs : s.size ≤ 140737488355328) (k : Int) (w : World) (hH : Hal w) :
    Calls Tryd.prog 72 #[.string s, .int .i64 k] w (Po w s k) := by
  obtain ⟨W0, HW0⟩ : ∃ W, Hid (w.alloc (.cells #[.int .i64 0, .int .i64 0, .int .i64 0, .int .i64 0, .string ⟨#[]⟩, .slice none 0 0, .string ⟨#[]⟩] 107) = W) := ⟨_, rfl⟩
  have hb0 : Below w.heap.size w W0 := HW0.out ▸ below_one _ _
  have hx0 : W0.heap[w.heap.size]? = some (.cells rcZ 107 (0, 0)) := HW0.out ▸ h1_0 _ _
  have z0 : (Tryd.prog.info? 107).map (·.size) = some 7 := by kernel_rfl
  have o0 : rcZ.all (·.oneCell') = true := by simp [rcZ, Value.oneCell']
  have HB0 : Hid (Below w.heap.size w W0) := hb0
  have HX0 : Hid (W0.heap[w.heap.size]? = some (.cells rcZ 107 (0, 0))) := hx0
  have HBX : ∀ x, Below w.heap.size w x → x.heap[w.heap.size]? = some (.cells rcZ 107 (0, 0)) → rcd s.data.toList k = none → Hid ((x.setRow w.heap.size rcZ).heap[w.heap.size]? = some (.cells rcZ 107 (0, 0)) ∧ Po w s k (.returned (.tuple #[.agg rcZ, .bool false])) (x.setRow w.heap.size rcZ)) := fun x h1 h2 h3 =>
    ⟨setRow_at h2 _, po_bad h3 (below_setRow h1 (Nat.le_refl _) _)⟩
  have HH : Hid (Hal W0) := hal_next hH (HW0.out ▸ below_one _ _)
  obtain ⟨N, hN⟩ : ∃ N, s.size = N := ⟨_, rfl⟩
  have HRC : Hid (rcd s.data.toList k = if N < 12 ∨ (wl s.data.toList : Int) ≠ k ∨ 10000000 < wl (s.data.toList.drop 4) ∨ N - 12 < wl (s.data.toList.drop 4) ∨ isB ((s.data.toList.drop 8).take (wl (s.data.toList.drop 4))) = false ∨ wl (s.data.toList.drop (8 + wl (s.data.toList.drop 4))) ≠ sumN (s.data.toList.take (8 + wl (s.data.toList.drop 4))) then none else some (wl (s.data.toList.drop 4))) := by
    show rcd _ _ = _
    unfold rcd
    rw [← size_list, hN]
  have HN : Hid (s.size = N ∧ N ≤ 140737488355328) := ⟨hN, hN ▸ hs⟩
  clear hb0 hx0 hH hs
  go_enter Tryd.func72, Tryd.ntmps72
  by_cases h12 : N < 12
  · have HE := HBX W0 HB0.out HX0.out (by rw [HRC.out, if_pos (.inl h12)])
    have q1 : (N : Int) < 12 := by omega
    clear HBX h12
    go_wp2_with (first | (rw [HW0.out]) | (refine wpList_store_row rfl 107 _ _ rfl w.heap.size rcZ rfl rfl _ _ HX0.out z0 rfl o0 ?_) | fail)
    refine bodyPost_ret (res_cell7 _ rcZ false _ ?_ ?_ rfl HE.out.1) rfl HE.out.2 <;> rfl
  have q1 : (12 : Int) ≤ (N : Int) := by omega
  have h4 : 4 ≤ s.size := by omega
  obtain ⟨V, hV⟩ : ∃ V, wl s.data.toList = V := ⟨_, rfl⟩
  have HWO : Hid (Calls Tryd.prog 74 #[.string s] W0 fun e w' => e = .returned (.int .u32 (V : Int)) ∧ Below W0.heap.size W0 w') := by
    have := wordOf_l s h4 W0
    rw [hV] at this; exact this
  have hVl : V < 4294967296 := hV ▸ wl_lt _
  rw [hV] at HRC
  have HVV : Hid (wl s.data.toList = V ∧ 12 ≤ N ∧ V < 4294967296) := ⟨hV, by omega, hVl⟩
  clear h4 hV hVl h12
  go_wp2_with (first | (rw [HW0.out]) | fail)
  refine HWO.out.mono ?_
  rintro e y1 ⟨rfl, hy1⟩
  have HB1 : Hid (Below w.heap.size w y1) := keepB' HB0.out hy1 HB0.out.size
  have HX1 : Hid (y1.heap[w.heap.size]? = some (.cells rcZ 107 (0, 0))) := kept hy1 HX0.out
  have HH1 : Hid (Hal y1) := hal_next HH.out hy1
  have hVw : wrap64 (V : Int) = (V : Int) := w64' V (by have := HVV.out; omega)
  clear hy1
  by_cases hk : (V : Int) = k
  rotate_left
  · have HE := HBX y1 HB1.out HX1.out (by rw [HRC.out, if_pos (.inr (.inl hk))])
    have q2 : ((V : Int) != k) = true := bne_iff_ne.2 hk
    clear HBX hk
    go_wp2_with (first | (refine wpList_store_row rfl 107 _ _ rfl w.heap.size rcZ rfl rfl _ _ HX1.out z0 rfl o0 ?_) | fail)
    refine bodyPost_ret (res_cell7 _ rcZ false _ ?_ ?_ rfl HE.out.1) rfl HE.out.2 <;> rfl
  subst hk
  obtain ⟨Z, hZ⟩ : ∃ Z, wl (s.data.toList.drop 4) = Z := ⟨_, rfl⟩
  have hZl : Z < 4294967296 := hZ ▸ wl_lt _
  have HWO2 : Hid (Calls Tryd.prog 74 #[.string (s.extract 4 N)] y1 fun e w' => e = .returned (.int .u32 (Z : Int)) ∧ Below y1.heap.size y1 w') := by
    have h9 := wordOf_l (s.extract 4 s.size) (by rw [drop_size]; have := HN.out; have := HVV.out; omega) y1
    rw [ext_drop, hZ, HN.out.1] at h9
    exact h9
  rw [hZ] at HRC
  have q3 : (4 : Int) ≤ (N : Int) := by omega
  have HZ : Hid (wl (s.data.toList.drop 4) = Z ∧ Z < 4294967296) := ⟨hZ, hZl⟩
  clear hZ hZl
  go_wp2_with fail
  refine HWO2.out.mono ?_
  rintro e y2 ⟨rfl, hy2⟩
  have HB2 : Hid (Below w.heap.size w y2) := keepB' HB1.out hy2 HB1.out.size
  have HX2 : Hid (y2.heap[w.heap.size]? = some (.cells rcZ 107 (0, 0))) := kept hy2 HX1.out
  have HH2 : Hid (Hal y2) := hal_next HH1.out hy2
  have hZw : wrap64 (Z : Int) = (Z : Int) := w64' Z (by have := HZ.out; omega)
  clear hy2
  obtain ⟨A8, hA8⟩ : ∃ A, N - 8 = A := ⟨_, rfl⟩
  obtain ⟨B4, hB4⟩ : ∃ B, A8 - 4 = B := ⟨_, rfl⟩
  have a2 : wrap64 ((N : Int) - 8) = (A8 : Int) := by
    rw [show (N : Int) - 8 = (A8 : Int) by omega]; exact w64' A8 (by have := HN.out.2; omega)
  have a4 : wrap64 ((A8 : Int) - 4) = (B4 : Int) := by
    rw [show (A8 : Int) - 4 = (B4 : Int) by omega]; exact w64' B4 (by have := HN.out.2; omega)
  have HB4N : Hid (N - 12 = B4) := by show N - 12 = B4; omega
  clear hA8 hB4
  by_cases hbig : 10000000 < Z
  · have HE := HBX y2 HB2.out HX2.out (by rw [HRC.out, if_pos (.inr (.inr (.inl hbig)))])
    have q4 : (10000000 : Int) < (Z : Int) := by omega
    clear HBX hbig
    go_wp2_with (first | (refine wpList_store_row rfl 107 _ _ rfl w.heap.size rcZ rfl rfl _ _ HX2.out z0 rfl o0 ?_) | fail)
    refine bodyPost_ret (res_cell7 _ rcZ false _ ?_ ?_ rfl HE.out.1) rfl HE.out.2 <;> rfl
  have q4 : (Z : Int) ≤ 10000000 := by omega
  by_cases hlong : N - 12 < Z
  · have HE := HBX y2 HB2.out HX2.out (by rw [HRC.out, if_pos (.inr (.inr (.inr (.inl hlong))))])
    have q5 : (B4 : Int) < (Z : Int) := by have := HB4N.out; omega
    clear HBX hbig hlong
    go_wp2_with (first | (refine wpList_store_row rfl 107 _ _ rfl w.heap.size rcZ rfl rfl _ _ HX2.out z0 rfl o0 ?_) | fail)
    refine bodyPost_ret (res_cell7 _ rcZ false _ ?_ ?_ rfl HE.out.1) rfl HE.out.2 <;> rfl
  have q5 : (Z : Int) ≤ (B4 : Int) := by have := HB4N.out; omega
  have q8 : (8 : Int) + (Z : Int) ≤ (N : Int) := by omega
  obtain ⟨body, hbd⟩ : ∃ l, (s.data.toList.drop 8).take Z = l := ⟨_, rfl⟩
  have hxb : (s.extract 8 (8 + Z)).data.toList = body := by rw [ext_mid, ← hbd, show 8 + Z - 8 = Z by omega]
  have HEN := entryOf_any (s.extract 8 (8 + Z)) (by rw [size_list, hxb, ← hbd]; have := List.length_take_le Z (s.data.toList.drop 8); omega) y2
  rw [hxb] at HEN
  have HE0 : Hid (Calls Tryd.prog 75 #[.string (s.extract 8 (8 + Z))] y2 fun e w' => (∃ c, e = .returned (.tuple #[.agg c, .bool (isB body)]) ∧ (isB body = true → ∃ v N, c = evV (some body) ++ #[v] ∧ w'.ownsRow y2.heap.size 85 5 v N (osV (evR (some body)))) ∧ (isB body = false → c = enZ)) ∧ Below y2.heap.size y2 w') := HEN
  rw [hbd] at HRC
  have HEE : Hid ((s.data.toList.drop 8).take Z = body ∧ Z ≤ 10000000 ∧ 12 + Z ≤ N) := ⟨hbd, by omega, by omega⟩
  clear hbd hxb HEN hbig hlong
  go_wp2_with fail
  refine HE0.out.mono ?_
  rintro e y3 ⟨⟨c, rfl, hgood, hbad⟩, hy3⟩
  have HB3 : Hid (Below w.heap.size w y3) := keepB' HB2.out hy3 HB2.out.size
  have HX3 : Hid (y3.heap[w.heap.size]? = some (.cells rcZ 107 (0, 0))) := kept hy3 HX2.out
  have HH3 : Hid (Hal y3) := hal_next HH2.out hy3
  have HS2 : Hid (w.heap.size ≤ y2.heap.size) := HB2.out.size
  clear a2 a4 hVw hZw
  cases hib : isB body with
  | false =>
    obtain rfl := hbad hib
    have HB4 : Hid (Below w.heap.size w (y3.alloc (.cells #[.int .i64 0, .int .i64 0, .int .i64 0, .string ⟨#[]⟩, .slice none 0 0] 40))) := keepB' HB3.out (below_one _ _) HB3.out.size
    have HX4 : Hid ((y3.alloc (.cells #[.int .i64 0, .int .i64 0, .int .i64 0, .string ⟨#[]⟩, .slice none 0 0] 40)).heap[w.heap.size]? = some (.cells rcZ 107 (0, 0))) := kept (below_one _ _) HX3.out
    have HNN : Hid (rcd s.data.toList (V : Int) = none) := by
      show rcd _ _ = _
      rw [HRC.out, if_pos (.inr (.inr (.inr (.inr (.inl hib)))))]
    unfold enZ
    have HHBX : Hid (∀ x, Below w.heap.size w x → x.heap[w.heap.size]? = some (.cells rcZ 107 (0, 0)) → rcd s.data.toList (V : Int) = none → Hid ((x.setRow w.heap.size rcZ).heap[w.heap.size]? = some (.cells rcZ 107 (0, 0)) ∧ Po w s (V : Int) (.returned (.tuple #[.agg rcZ, .bool false])) (x.setRow w.heap.size rcZ))) := HBX
    clear hgood hbad hy3 hib HBX
    go_wp2_with fail
    refine Ql.region_cl (by kernel_rfl) (by kernel_rfl) ?_
    try dsimp only [Act.put]
    repeat (first | go_big_quiet_skip | (go_big_quiet_want; go_big_quiet_op; first | go_big_quiet_on | (refine ⟨_, fun _ _ => rfl, ?_⟩; go_big_quiet_on) | (refine ⟨_, fun _ _ => ⟨rfl, rfl⟩, ?_⟩; go_big_quiet_on)) | (refine wpQuiet_step (fun K hK => ?_); first
      | fail))
    refine wpQuiet_nil ?_
    intro y5 hy5
    have HB5 : Hid (Below w.heap.size w y5) := keepB' HB4.out hy5 HB4.out.size
    have HX5 : Hid (y5.heap[w.heap.size]? = some (.cells rcZ 107 (0, 0))) := kept hy5 HX4.out
    have HE := HHBX.out y5 HB5.out HX5.out HNN.out
    clear hy5
    go_wp2_with (first | (refine wpList_store_row rfl 107 _ _ rfl w.heap.size rcZ rfl rfl _ _ HX5.out z0 rfl o0 ?_) | fail)
    refine bodyPost_ret (res_cell7 _ rcZ false _ ?_ ?_ rfl HE.out.1) rfl HE.out.2 <;> rfl
  | true =>
    obtain ⟨v, M, rfl, ho⟩ := hgood hib
    obtain ⟨so, cap, rfl⟩ := Bd.owns_sl ho
    obtain ⟨n1, n2, n3, tx, hT⟩ : ∃ n1 n2 n3 tx, evV (some body) = #[.int .i64 n1, .int .i64 n2, .int .i64 n3, .string tx] := ⟨_, _, _, _, rfl⟩
    obtain ⟨W4, HW4⟩ : ∃ W, Hid (y3.alloc (.cells #[.int .i64 n1, .int .i64 n2, .int .i64 n3, .string tx, .slice so M cap] 40) = W) := ⟨_, rfl⟩
    have hb4 : Below y3.heap.size y3 W4 := HW4.out ▸ below_one _ _
    have HB4 : Hid (Below w.heap.size w W4) := keepB' HB3.out hb4 HB3.out.size
    have HX4 : Hid (W4.heap[w.heap.size]? = some (.cells rcZ 107 (0, 0))) := kept hb4 HX3.out
    have HXE : Hid (W4.heap[y3.heap.size]? = some (.cells #[.int .i64 n1, .int .i64 n2, .int .i64 n3, .string tx, .slice so M cap] 40 (0, 0))) := HW4.out ▸ h1_0 _ _
    have HO4 : Hid (W4.ownsRow y2.heap.size 85 5 (.slice so M cap) M (osV (evR (some body)))) := Bd.owns_keep ho fun p hp => hb4.block p (ho.lt p hp).2
    have HH4 : Hid (Hal W4) := hal_next HH3.out hb4
    have HTT : Hid (evV (some body) = #[.int .i64 n1, .int .i64 n2, .int .i64 n3, .string tx] ∧ isB body = true) := ⟨hT, hib⟩
    rw [hT]
    have HHBX : Hid (∀ x, Below w.heap.size w x → x.heap[w.heap.size]? = some (.cells rcZ 107 (0, 0)) → rcd s.data.toList (V : Int) = none → Hid ((x.setRow w.heap.size rcZ).heap[w.heap.size]? = some (.cells rcZ 107 (0, 0)) ∧ Po w s (V : Int) (.returned (.tuple #[.agg rcZ, .bool false])) (x.setRow w.heap.size rcZ))) := HBX
    clear hgood hbad hy3 hib ho hT hb4 HBX
    go_wp2_with (first | (rw [HW4.out]) | fail)
    obtain ⟨X, hX⟩ : ∃ X, wl (s.data.toList.drop (8 + Z)) = X := ⟨_, rfl⟩
    obtain ⟨U, hU⟩ : ∃ U, sumN (s.data.toList.take (8 + Z)) = U := ⟨_, rfl⟩
    have pw : ∀ y, Calls Tryd.prog 74 #[.string (s.extract (8 + Z) N)] y fun e y' => e = .returned (.int .u32 (X : Int)) ∧ Below y.heap.size y y' := fun y => by
      have h9 := wordOf_l (s.extract (8 + Z) s.size) (by rw [drop_size]; have := HN.out; have := HEE.out; omega) y
      rw [ext_drop, hX, HN.out.1] at h9
      exact h9
    have ps : ∀ y, Ql.Cl W4 y → Calls Tryd.prog 9 #[.string (s.extract 0 (8 + Z))] y fun e y' => e = .returned (.int .u32 (U : Int)) ∧ y' = y := fun y hy => by
      have h9 := sum_any (s.extract 0 (8 + Z)) y (by rw [ByteArray.size_extract]; have := HN.out; have := HEE.out; omega) (hal_next HH4.out hy)
      rw [ext_mid, List.drop_zero, show 8 + Z - 0 = 8 + Z by omega, hU] at h9
      exact h9
    rw [hX, hU] at HRC
    have HXU : Hid (wl (s.data.toList.drop (8 + Z)) = X ∧ sumN (s.data.toList.take (8 + Z)) = U) := ⟨hX, hU⟩
    clear hX hU
    refine Ql.region_cl (by kernel_rfl) (by kernel_rfl) ?_
    try dsimp only [Act.put]
    repeat (first | go_big_quiet_skip | (go_big_quiet_want; go_big_quiet_op; first | go_big_quiet_on | (refine ⟨_, fun _ _ => rfl, ?_⟩; go_big_quiet_on) | (refine ⟨_, fun _ _ => ⟨rfl, rfl⟩, ?_⟩; go_big_quiet_on)) | (refine wpQuiet_step (fun K hK => ?_); first
      | (go_simp; apply Exists.intro; refine ⟨fun y hy => ?_, hK _ ?_⟩; (first | (go_at_call 74; exact Ql.cl_of hy (pw _)) | (go_at_call 9; exact Ql.cl_same hy (ps _ hy))); clear hK K)
      | fail))
    refine wpQuiet_nil ?_
    intro y5 hy5
    have HB5 : Hid (Below w.heap.size w y5) := keepB' HB4.out hy5 HB4.out.size
    have HX5 : Hid (y5.heap[w.heap.size]? = some (.cells rcZ 107 (0, 0))) := kept hy5 HX4.out
    have hxe5 : y5.heap[y3.heap.size]? = some (.cells #[.int .i64 n1, .int .i64 n2, .int .i64 n3, .string tx, .slice so M cap] 40 (0, 0)) := kept hy5 HXE.out
    have HO5 : Hid (y5.ownsRow y2.heap.size 85 5 (.slice so M cap) M (osV (evR (some body)))) := Bd.owns_keep HO4.out fun p hp => hy5.block p (HO4.out.lt p hp).2
    clear hy5 pw ps
    by_cases hxu : X = U
    rotate_left
    · have HNN : Hid (rcd s.data.toList (V : Int) = none) := by
        show rcd _ _ = _
        rw [HRC.out, if_pos (.inr (.inr (.inr (.inr (.inr hxu)))))]
      have HE := HHBX.out y5 HB5.out HX5.out HNN.out
      have q9 : ((X : Int) != (U : Int)) = true := bne_iff_ne.2 fun e => hxu (Int.ofNat.inj e)
      clear hxu hxe5
      go_wp2_with (first | (refine wpList_store_row rfl 107 _ _ rfl w.heap.size rcZ rfl rfl _ _ HX5.out z0 rfl o0 ?_) | fail)
      refine bodyPost_ret (res_cell7 _ rcZ false _ ?_ ?_ rfl HE.out.1) rfl HE.out.2 <;> rfl
    subst hxu
    have HNN : Hid (rcd s.data.toList (V : Int) = some Z) := by
      show rcd _ _ = _
      have h1 := HVV.out; have h2 := HEE.out; have h3 := HTT.out.2
      rw [HRC.out, if_neg]
      rintro (h | h | h | h | h | h)
      · omega
      · exact h rfl
      · omega
      · omega
      · rw [h3] at h; cases h
      · exact h rfl
    have hlt5 : y3.heap.size < y5.heap.size := (Array.getElem?_eq_some_iff.1 hxe5).1
    have q9 : (8 : Int) + (Z : Int) + 4 ≤ (N : Int) := by have := HEE.out; omega
    go_wp2_with fail
    have ze : (Tryd.prog.info? 40).map (·.size) = some 5 := by kernel_rfl
    refine Ql.region_twoL (C := Ql.Cl y5) (by kernel_rfl) rfl (by kernel_rfl) (by kernel_rfl) (by kernel_rfl) rfl rfl ((Below.refl _ _).drew) ?_
    dsimp only [List.dropLast]
    repeat (first | go_big_quiet_skip | (go_big_quiet_want; go_big_quiet_op; first | go_big_quiet_on | (refine ⟨_, fun _ _ => rfl, ?_⟩; go_big_quiet_on) | (refine ⟨_, fun _ _ => ⟨rfl, rfl⟩, ?_⟩; go_big_quiet_on)) | (refine wpQuiet_step (fun K hK => ?_); first
      | (refine Ql.q_row (by rfl) 40 _ rfl y3.heap.size rfl _ _ _ _ hxe5 Tryd.underlying40 rfl ze (hK _ ?_); clear hK K; simp only [Act.put, List.setIfInBounds_toArray, List.set_cons_succ, List.set_cons_zero])
      | fail))
    refine wpQuiet_nil ?_
    intro y6 hy6
    have hx6 : y6.heap[w.heap.size]? = some (.cells rcZ 107 (0, 0)) := kept hy6 HX5.out
    have o1 : (#[.int .i64 (V : Int), .int .i64 n1, .int .i64 n2, .int .i64 n3, .string tx, .slice so M cap, .string (s.extract 0 (8 + Z + 4))] : Array Value).all (·.oneCell') = true := by simp [Value.oneCell']
    refine wp_store_row 107 _ _ rfl w.heap.size #[.int .i64 (V : Int), .int .i64 n1, .int .i64 n2, .int .i64 n3, .string tx, .slice so M cap, .string (s.extract 0 (8 + Z + 4))] rfl rfl _ _ hx6 z0 rfl o1 ?_
    have HX7 : Hid ((y6.setRow w.heap.size #[.int .i64 (V : Int), .int .i64 n1, .int .i64 n2, .int .i64 n3, .string tx, .slice so M cap, .string (s.extract 0 (8 + Z + 4))]).heap[w.heap.size]? = some (.cells #[.int .i64 (V : Int), .int .i64 n1, .int .i64 n2, .int .i64 n3, .string tx, .slice so M cap, .string (s.extract 0 (8 + Z + 4))] 107 (0, 0))) := setRow_at hx6 _
    have HPO : Hid (Po w s (V : Int) (.returned (.tuple #[.agg #[.int .i64 (V : Int), .int .i64 n1, .int .i64 n2, .int .i64 n3, .string tx, .slice so M cap, .string (s.extract 0 (8 + Z + 4))], .bool true])) (y6.setRow w.heap.size #[.int .i64 (V : Int), .int .i64 n1, .int .i64 n2, .int .i64 n3, .string tx, .slice so M cap, .string (s.extract 0 (8 + Z + 4))])) := by
      refine And.intro (Exists.intro #[.int .i64 (V : Int), .int .i64 n1, .int .i64 n2, .int .i64 n3, .string tx, .slice so M cap, .string (s.extract 0 (8 + Z + 4))] (And.intro ?_ (And.intro ?_ ?_))) (below_setRow (keepB' HB5.out hy6 HB5.out.size) (Nat.le_refl _) _)
      · rw [HNN.out]; rfl
      · intro z hz
        rw [HNN.out] at hz
        cases hz
        rw [HEE.out.1]
        refine ⟨.slice so M cap, M, ?_, ?_⟩
        · rw [HTT.out.1, show 12 + Z = 8 + Z + 4 by omega]; rfl
        · have HO6 : y6.ownsRow y2.heap.size 85 5 (.slice so M cap) M (osV (evR (some body))) := Bd.owns_keep HO5.out fun p hp => hy6.block p (HO5.out.lt p hp).2
          have hs2 : w.heap.size < y2.heap.size := by have := (Array.getElem?_eq_some_iff.1 HX2.out).1; exact this
          exact (Bd.owns_keep HO6 fun p hp => setRow_ne (by have := (HO6.lt p hp).1; omega) _).mono (Nat.le_of_lt hs2)
      · intro hn; rw [HNN.out] at hn; cases hn
    clear hy6 hx6 o1
    go_simp
    go_wp2_with fail
    refine bodyPost_ret (res_cell7 _ _ true _ ?_ ?_ rfl HX7.out) rfl HPO.out <;> rfl
end Go.Proofs.YtabmpngliphdpaaDoor.Jr
