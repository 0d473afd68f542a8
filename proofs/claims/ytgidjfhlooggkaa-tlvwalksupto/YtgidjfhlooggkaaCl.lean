/- Nodes as memory of their own. -/
import Derived.Test.YtgidjfhlooggkaaGj
import Derived.Deep.RegionHeld3
namespace Go.Proofs.Ytgidjfhlooggkaa.Cl
set_option linter.unusedVariables false
set_option linter.unusedSimpArgs false
open Go.RowKit Kb Ga Gb Gc Nt Gj
theorem cell3 {x : World} {g : Nat} {a b c : Value} {t : TypeId} (h : x.heap[g]? = some (.cells #[a, b, c] t)) : x.cell? ⟨g, 0, none⟩ = some a ∧ x.cell? ⟨g, 1, none⟩ = some b ∧ x.cell? ⟨g, 2, none⟩ = some c := by
  refine ⟨?_, ?_, ?_⟩ <;> simp only [World.cell?, h] <;> rfl
theorem frz3 {x : World} {g : Nat} {c : Array Value} {t : TypeId} (h : x.heap[g]? = some (.cells c t)) : x.frozen? ⟨g, 0, none⟩ = false ∧ x.frozen? ⟨g, 1, none⟩ = false ∧ x.frozen? ⟨g, 2, none⟩ = false := by
  refine ⟨?_, ?_, ?_⟩ <;> simp [World.frozen?, h]
def ClC (m : Nat) : Prop := ∀ (ts : List AT), SizeOf.sizeOf ts ≤ m → ∀ (v : Value) (w : World), Rdn w v ts →
  Calls Try.prog 59 #[v] w fun e w' => ∃ v' ats, e = .returned v' ∧ er ats = er ts ∧ Own w' w.heap.size v' ats ∧ Below w.heap.size w w'
set_option maxRecDepth 100000 in
set_option maxHeartbeats 1600000 in
theorem cloned_any {m : Nat} (ih : ClC m) (t : Int) (v : ByteArray) (kv : Value) (ks : List AT) (hm : SizeOf.sizeOf ks ≤ m) (w : World) (hr : Rdn w kv ks) (hv : v.size ≤ 1048576) :
    Calls Try.prog 56 #[.agg #[.int .i64 t, .string v, kv]] w fun e w' => ∃ kv' aks, e = .returned (.agg #[.int .i64 t, .string v, kv']) ∧ er aks = er ks ∧ Own w' w.heap.size kv' aks ∧ Below w.heap.size w w' := by
  obtain ⟨o, cap, hkv, -⟩ := hr.row
  obtain ⟨KL, HKL⟩ : ∃ KL, Hid (ks.length = KL) := ⟨_, rfl⟩
  rw [HKL.out] at hkv
  subst hkv
  have h0 := h2_0 w (.cells #[.int .i64 t, .string v, .slice o KL cap] 40) (.cells zn 40)
  have h1 := h2_1 w (.cells #[.int .i64 t, .string v, .slice o KL cap] 40) (.cells zn 40)
  have B0 := below_two w (.cells #[.int .i64 t, .string v, .slice o KL cap] 40) (.cells zn 40)
  have s0 : ((w.alloc (.cells #[.int .i64 t, .string v, .slice o KL cap] 40)).alloc (.cells zn 40)).heap.size = w.heap.size + 1 + 1 := by simp
  go_enter Try.func56, Try.ntmps56
  go_wp2_with fail
  generalize (w.alloc (.cells #[.int .i64 t, .string v, .slice o KL cap] 40)).alloc (.cells zn 40) = W at *
  obtain ⟨d0, d1, d2⟩ := cell3 h0
  have CN := fun y => Gh.clone_any v y (by omega)
  have CL : ∀ y, Below W.heap.size W y → Calls Try.prog 59 #[.slice o KL cap] y fun e w' => ∃ v' ats, e = .returned v' ∧ er ats = er ks ∧ Own w' y.heap.size v' ats ∧ Below y.heap.size y w' := fun y hy => ih ks hm (.slice o KL cap) y (hr.below (keepB B0 hy))
  have CLH : Hid (∀ y, Below W.heap.size W y → Calls Try.prog 59 #[.slice o KL cap] y fun e w' => ∃ v' ats, e = .returned v' ∧ er ats = er ks ∧ Own w' y.heap.size v' ats ∧ Below y.heap.size y w') := CL
  have CNH : Hid (∀ y, Calls Try.prog 60 #[.string v] y fun e w' => e = .returned (.string v) ∧ Below y.heap.size y w') := CN
  clear CL CN hr ih hm
  have KD : Hid (∀ y, Below W.heap.size W y → (y.cell? ⟨w.heap.size, 0, none⟩ = some (.int .i64 t) ∧ y.cell? ⟨w.heap.size, 1, none⟩ = some (.string v) ∧ y.cell? ⟨w.heap.size, 2, none⟩ = some (.slice o KL cap)) ∧ y.heap[w.heap.size + 1]? = some (.cells zn 40)) := fun y hy => ⟨cell3 (kept hy h0), kept hy h1⟩
  have hD : Below W.heap.size W W.drew := (Below.refl _ _).drew
  go_region_held3 (fun w' => w'.cell? ⟨w.heap.size, 0, none⟩ = some (.int .i64 t) ∧ w'.cell? ⟨w.heap.size, 1, none⟩ = some (.string v) ∧ w'.cell? ⟨w.heap.size, 2, none⟩ = some (.slice o KL cap)) (first | (refine ⟨?_, ?_, ?_⟩ <;> assumption) | go_keep)
    ((first
      | (go_at_call 60; refine (CNH.out _).mono ?_; rintro e y ⟨rfl, hy⟩; have BY : Below W.heap.size W y := (by first | exact keepB hD hy | exact keepB BZ hy); obtain ⟨⟨j0, j1, j2⟩, j3⟩ := KD.out y BY; obtain ⟨k0, k1, k2⟩ := cell3 j3; obtain ⟨m0, m1, m2⟩ := frz3 j3)
      | (go_at_call 59; refine (CLH.out _ (by first | exact hD | exact BY)).mono ?_; rintro e z ⟨v', ats, rfl, hea, hown, hz⟩; obtain ⟨ko, kc, rfl⟩ := hown.form; have BZ : Below W.heap.size W z := (by first | exact keepB hD hz | exact keepB BY hz); obtain ⟨⟨j0, j1, j2⟩, j3⟩ := KD.out z BZ; obtain ⟨k0, k1, k2⟩ := cell3 j3; obtain ⟨m0, m1, m2⟩ := frz3 j3)))
  all_goals
    have r1 : (((z.setCell ⟨w.heap.size + 1, 0, none⟩ (.int .i64 t)).setCell ⟨w.heap.size + 1, 1, none⟩ (.string v)).setCell ⟨w.heap.size + 1, 2, none⟩ (.slice ko ats.length kc)).heap[w.heap.size + 1]? = some (.cells #[.int .i64 t, .string v, .slice ko ats.length kc] 40) := Gd.setCell_heap (Gd.setCell_heap (Gd.setCell_heap j3 0 (.int .i64 t)) 1 (.string v)) 2 (.slice ko ats.length kc)
    have hle : W.heap.size ≤ y.heap.size := BY.size
    have OZ : Own (((z.setCell ⟨w.heap.size + 1, 0, none⟩ (.int .i64 t)).setCell ⟨w.heap.size + 1, 1, none⟩ (.string v)).setCell ⟨w.heap.size + 1, 2, none⟩ (.slice ko ats.length kc)) w.heap.size (.slice ko ats.length kc) ats :=
      (hown.keep fun q hq => (Gd.setCell_ne (by have := (hown.lt q hq).1; omega) _ _).trans ((Gd.setCell_ne (by have := (hown.lt q hq).1; omega) _ _).trans (Gd.setCell_ne (by have := (hown.lt q hq).1; omega) _ _))).base (by omega)
    have BB := (((keepB B0 BZ).setCell (p := ⟨w.heap.size + 1, 0, none⟩) (by simp) (.int .i64 t)).setCell (p := ⟨w.heap.size + 1, 1, none⟩) (by simp) (.string v)).setCell (p := ⟨w.heap.size + 1, 2, none⟩) (by simp) (.slice ko ats.length kc)
    go_wp2_with fail
    refine bodyPost_ret (v := .agg #[.int .i64 t, .string v, .slice ko ats.length kc]) (results_cell_row rfl _ _ (w.heap.size + 1) _ _ _ _ rfl r1 Try.underlying40 rfl infoN) rfl ?_
    exact ⟨_, ats, rfl, hea, OZ, BB⟩
set_option maxRecDepth 100000 in
set_option maxHeartbeats 1600000 in
theorem clist_step {m : Nat} (ih : ClC m) : ClC (m + 1) := by
  intro ts hm v w hr
  have HR : Hid (Rdn w v ts) := hr
  obtain ⟨o, cap, e, hN, -⟩ := hr.row
  obtain ⟨N, HN, hN2⟩ : ∃ N : Nat, Hid (ts.length = N) ∧ N ≤ 1048576 := ⟨_, rfl, hN⟩
  rw [HN.out] at e
  subst e
  have HM : Hid (SizeOf.sizeOf ts ≤ m + 1) := hm
  obtain ⟨ia, hia, hza0, hza1, hza2⟩ := info_parts infoNN
  clear hr hm hN
  go_enter Try.func59, Try.ntmps59
  go_wp2
  go_loopw [3, 8] (fun vc vi wr => ∃ (i : Nat) (ac : List AT), i ≤ N ∧ vi = .int .i64 (i : Int) ∧ Hid (er ac = er (ts.take i)) ∧ ac.length = i ∧ Own wr w.heap.size vc ac ∧ Below w.heap.size w wr) (fun _ vi _ => N - (intOf vi).toNat)
  case atStart => exact ⟨0, [], Nat.zero_le _, rfl, by show _ = _; simp [er], rfl, own_nil _ _, Below.refl _ _⟩
  case round =>
    obtain ⟨i, ac, hi, rfl, HS, hac, hown, hwr⟩ := hrel
    rename World => wr
    obtain ⟨uo, uc, rfl⟩ := hown.form
    have HAC : Hid (ac.length = i) := hac
    rw [hac] at hown
    rw [hac]
    have HO : Hid (Own wr w.heap.size (.slice uo i uc) ac) := hown
    clear hown hac
    by_cases hlt : i < N
    · have hlt' : (i : Int) < (N : Int) := by omega
      have hit : i < ts.length := by rw [HN.out]; exact hlt
      obtain ⟨o', cap', e', _, hc⟩ := (HR.out.below hwr).row
      obtain ⟨a, ea, d0, d1, d2⟩ := hc i hit
      rw [HN.out] at e'
      obtain ⟨rfl, rfl⟩ : o = o' ∧ cap = cap' := by simpa using e'
      subst ea
      have hk := rdL_at ts i hit HR.out.kids
      have hkl := kids_lt hit
      have HS2 : er (ts.take (i + 1)) = er (ts.take i) ++ er [ts[i]] := by rw [List.take_succ_eq_append_getElem hit, er_append]
      rw [← HS.out] at HS2
      clear hc e'
      obtain ⟨nd, hnd⟩ : ∃ nd, nd = ts[i] := ⟨_, rfl⟩
      rw [← hnd] at d0 d1 d2 hk hkl HS2
      clear hnd
      cases nd with
      | mk tag val kv ks =>
      simp only [AT.tag, AT.val, AT.kv, AT.kids, er] at d0 d1 d2 hk hkl HS2
      obtain ⟨ko, kc, hkv, -⟩ := hk.1.row
      obtain ⟨KL, HKL⟩ : ∃ KL, Hid (ks.length = KL) := ⟨_, rfl⟩
      rw [HKL.out] at hkv
      subst hkv
      have hM := HM.out
      have HS3 : Hid (er (ts.take (i + 1)) = er ac ++ [Tr.mk tag val (er ks)]) := HS2
      have bb := below_one wr (.cells #[.int .i64 tag, .string val, .slice ko KL kc] 40)
      have hb1 := hwr.trans (bb.mono hwr.size)
      have cc := cloned_any ih tag val (.slice ko KL kc) ks (by omega) (wr.alloc (.cells #[.int .i64 tag, .string val, .slice ko KL kc] 40)) (hk.1.below hb1) hk.2.1
      have hval := hk.2.1
      have htag := hk.2.2
      have OW1 : Hid (Own (wr.alloc (.cells #[.int .i64 tag, .string val, .slice ko KL kc] 40)) w.heap.size (.slice uo i uc) ac) := HO.out.below bb
      clear hk hkl hM HS2 HO bb
      go_wp2_with fail
      clear d0 d1 d2
      generalize wr.alloc (.cells #[.int .i64 tag, .string val, .slice ko KL kc] 40) = W1 at *
      refine cc.mono ?_
      rintro _ y ⟨kv', aks, rfl, hea, hok, hy⟩
      obtain ⟨ko2, kc2, rfl⟩ := hok.form
      obtain ⟨LK, HLK⟩ : ∃ LK, Hid (aks.length = LK) := ⟨_, rfl⟩
      rw [HLK.out] at hok
      rw [HLK.out]
      have HB : Hid (∀ q ∈ (Value.slice uo i uc).ownBlock.toList ++ fp ac, q < W1.heap.size) := fun q hq => (OW1.out.lt q hq).2
      have HO3 : Hid (Own y w.heap.size (.slice uo i uc) ac) := OW1.out.below hy
      have HOK : Hid (Own y W1.heap.size (.slice ko2 LK kc2) aks) := hok
      have hb2 := keepB hb1 hy
      have OWN1 : Hid (World.ownsRow y w.heap.size 40 3 (.slice uo i uc) i (cs ac)) := by have := HO3.out.row; rw [HAC.out] at this; exact this
      have hs1 := hb1.size
      clear cc hok hy OW1
      go_wp2_with (at_builtin; refine wpList_append_lies _ rfl _ _ _ rfl w.heap.size 40 ia _ 3 48 Try.underlying23 hia hza0 hza1 hza2 rfl (by omega) _ i _ rfl (OWN1.out.alloc _) ⟨y.heap.size, 0, Option.none⟩ 1 1 _ rfl (by rfl) (World.news_of_block (heap_alloc_new y _)) (by simp [Value.oneCell']) (by omega) (by unfold maxLen; omega) (by omega) (by first | omega | (have := hb2.size; simp <;> omega)) (y.heap.size + 1) (by simp) ?_; intro g1 c1 w1 own1 gr1 hat1 hlt1)
      have B1 := grow3 hb2.size OWN1.out gr1
      have hp := own_push (x := y) (v := .slice uo i uc) HO3.out HOK.out HB.out (by omega) hval htag (by have := HAC.out; omega) gr1 (by rw [HAC.out]; exact own1) hat1
      have hn := HAC.out
      refine ⟨⟨i + 1, ac ++ [.mk tag val (.slice ko2 LK kc2) aks], by omega, by go_num, ?_, ?_, ?_, hb2.trans B1⟩, by simp [intOf]; omega⟩
      · show _ = _
        rw [HS3.out, er_append]
        simp only [er, hea]
      · rw [List.length_append, hn]; rfl
      · have e : (ac ++ [AT.mk tag val (.slice ko2 LK kc2) aks]).length = i + 1 := by rw [List.length_append, hn]; rfl
        rw [e] at hp
        exact hp
    · have HE : Hid (er ac = er ts) := by
        have := HS.out
        rw [List.take_of_length_le (by rw [HN.out]; omega)] at this
        exact this
      have hlt' : ¬ (i : Int) < (N : Int) := by omega
      go_wp2
      go_ret
      exact ⟨_, rfl, ac, HE.out, HO.out, hwr⟩
theorem clist_all : ∀ m, ClC m
  | 0 => fun ts hm => by cases ts <;> simp at hm
  | m + 1 => clist_step (clist_all m)
theorem clonedList_any (ts : List AT) (v : Value) (w : World) (hr : Rdn w v ts) :
    Calls Try.prog 59 #[v] w fun e w' => ∃ v' ats, e = .returned v' ∧ er ats = er ts ∧ Own w' w.heap.size v' ats ∧ Below w.heap.size w w' := clist_all _ ts (Nat.le_refl _) v w hr
theorem clonedNode_any (t : Int) (v : ByteArray) (kv : Value) (ks : List AT) (w : World) (hr : Rdn w kv ks) (hv : v.size ≤ 1048576) :
    Calls Try.prog 56 #[.agg #[.int .i64 t, .string v, kv]] w fun e w' => ∃ kv' aks, e = .returned (.agg #[.int .i64 t, .string v, kv']) ∧ er aks = er ks ∧ Own w' w.heap.size kv' aks ∧ Below w.heap.size w w' := cloned_any (clist_all _) t v kv ks (Nat.le_refl _) w hr hv
end Go.Proofs.Ytgidjfhlooggkaa.Cl
