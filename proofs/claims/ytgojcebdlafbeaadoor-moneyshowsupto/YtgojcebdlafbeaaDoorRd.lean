/- Read: the program's. -/
import Derived.Test.YtgojcebdlafbeaaDoorSh
import Derived.Lib.AtoiErrMem
namespace Go.Proofs.YtgojcebdlafbeaaDoor.Rd
set_option linter.unusedVariables false
open Go.RowKit Kb Cp Np Mp Pp Pc Ms Sw Sh
theorem toL (s : ByteArray) : s.toList = s.data.toList := by
  apply ByteArray.toList_eq
def rdV (t s : List UInt8) : Int := if plE s = 0 then (rdN t (plV s).toNat : Int) else 0
def rdX (t s : List UInt8) : Int := if plE s = 0 then rdE t (plV s).toNat else 70
/-- what Atoi makes of the text without its first point -/
def at0 (t : List UInt8) : Lib.NumEnd Int := Lib.atoiAll (Lib.replace t [46] [] 1)
theorem at_hit {t : List UInt8} {u p : Nat} (hp : p ≤ 3) (hu : u ≤ 999999999999) (h : showL u p = t) : at0 t = .ok (u : Int) := by
  rw [at0, ← h]; exact atoi_show u p hu hp
theorem repl_any (t : ByteArray) (ht : t.size ≤ 1048576) (w : World) (hG : Gl w) : Calls Tryd.prog 19 #[.string t, .string ⟨#[46]⟩, .string ⟨#[]⟩, .int .i64 1] w fun e w' => e = .returned (.string ⟨(Lib.replace t.data.toList [46] [] 1).toArray⟩) ∧ Below w.heap.size w w' := by
  obtain ⟨_, _, _, m, hm⟩ := hG
  exact Tryd.strings_Replace t ⟨#[46]⟩ ⟨#[]⟩ 1 m w (by omega) hm (by decide) (by show t.size + Lib.countB t ⟨#[46]⟩ * 0 ≤ _; omega)
theorem repl_len (l : List UInt8) : (Lib.replace l [46] [] 1).length ≤ l.length := by
  rw [Lib.replace, if_neg (by decide)]
  generalize Lib.replaceNum l [46] 1 = k
  induction k generalizing l with
  | zero => exact Nat.le_refl _
  | succ k ih =>
    rw [Lib.replaceK]
    split
    · exact Nat.le_refl _
    · have := ih (l.drop ((Lib.index l [46]).toNat + [(46 : UInt8)].length))
      rw [List.append_nil, List.length_append, List.length_take]
      rw [List.length_drop] at this
      omega
/-- Atoi: the number, or an error -/
theorem atoi_any (r : ByteArray) (hr : r.size ≤ 1048576) (w : World) (hG : Gl w) : Calls Tryd.prog 18 #[.string r] w fun e w' => ((∃ v, Lib.atoiAll r.data.toList = .ok v ∧ e = .returned (.tuple #[.int .i64 v, .nilIface])) ∨ ((∀ v, Lib.atoiAll r.data.toList ≠ .ok v) ∧ ∃ (v : Int) (N : Nat), e = .returned (.tuple #[.int .i64 v, .iface 64 (.pointer (some ⟨N, 0, none⟩))]))) ∧ Below w.heap.size w w' := by
  obtain ⟨_, ⟨e1, c1, k1⟩, ⟨e2, c2, k2⟩, _⟩ := hG
  cases h : Lib.atoiAll r.data.toList with
  | ok v =>
    refine (Tryd.strconv_Atoi_ok r (by omega) v h w).mono ?_
    rintro e x ⟨rfl, hx⟩
    refine ⟨Or.inl ⟨v, rfl, rfl⟩, ?_⟩
    rcases hx with rfl | ⟨t, rfl⟩
    · exact Below.refl _ _
    · exact Lib.bytesWorld_below _ _ _
  | «syntax» =>
    refine (Tryd.strconv_Atoi_syntax r (by omega) h e1 w c1 k1).mono ?_
    rintro e x ⟨N, rfl, _, _, hb⟩
    exact ⟨Or.inr ⟨(fun v hv => by cases hv), 0, N, rfl⟩, hb⟩
  | range =>
    refine (Tryd.strconv_Atoi_range r (by omega) h e2 w c2 k2).mono ?_
    rintro e x ⟨N, rfl, _, _, hb⟩
    exact ⟨Or.inr ⟨(fun v hv => by cases hv), _, N, rfl⟩, hb⟩
set_option maxRecDepth 100000 in
set_option maxHeartbeats 800000 in
theorem read_any (t s : ByteArray) (ht : t.size ≤ 1048576) (hs : s.size ≤ maxLen) (w : World) (hG : Gl w) : Calls Tryd.prog 7 #[.string t, .string s] w fun e w' => e = .returned (.tuple #[.int .i64 (rdV t.data.toList s.data.toList), .int .i64 (rdX t.data.toList s.data.toList)]) ∧ Below w.heap.size w w' := by
  have pa := fun w => places_any s hs w
  rcases plE_cases s.data.toList with e0 | ⟨e0, v0⟩
  · have hV : rdV t.data.toList s.data.toList = (rdN t.data.toList (plV s.data.toList).toNat : Int) := by rw [rdV, if_pos e0]
    have hX : rdX t.data.toList s.data.toList = rdE t.data.toList (plV s.data.toList).toNat := by rw [rdX, if_pos e0]
    rw [hV, hX]
    have vb := plV_bounds s.data.toList
    have pr := fun w h => repl_any t ht w h
    obtain ⟨r, Hr⟩ : ∃ r, Hid (ByteArray.mk (Lib.replace t.data.toList [46] [] 1).toArray = r) := ⟨_, rfl⟩
    rw [Hr.out] at pr
    have hrs : r.size ≤ 1048576 := by
      rw [← Hr.out]
      have := repl_len t.data.toList
      have e : t.data.toList.length = t.size := by simp
      show (Lib.replace t.data.toList [46] [] 1).toArray.size ≤ _
      rw [List.size_toArray]; omega
    have HA : Hid (Lib.atoiAll r.data.toList = at0 t.data.toList) := by show _ = _; rw [← Hr.out]; rfl
    have pt := fun w h => atoi_any r hrs w h
    rw [HA.out] at pt
    have ps := fun u w h => show_any u s hs w h
    rw [e0] at pa
    obtain ⟨p, hp⟩ : ∃ p : Nat, (plV s.data.toList).toNat = p := ⟨_, rfl⟩
    have hp3 : p ≤ 3 := by omega
    rw [hp]
    have HH : Hid (∀ u, u ≤ 999999999999 → showL u p = t.data.toList → at0 t.data.toList = .ok (u : Int)) := fun u hu h => at_hit hp3 hu h
    have HS : Hid (∀ u, isA u = true → swT u s.data.toList = ⟨(showL u.toNat p).toArray⟩ ∧ swE u s.data.toList = 0) := fun u hu => ⟨by rw [swT, if_pos ⟨e0, hu⟩, hp], by rw [swE, if_pos e0, if_pos hu]⟩
    have HS2 : Hid (∀ u, isA u = false → swE u s.data.toList = 71) := fun u hu => by rw [swE, if_pos e0, if_neg (by rw [hu]; simp)]
    have HG : Hid (Gl w) := hG
    obtain ⟨V, hVV⟩ : ∃ V : Int, V = (rdN t.data.toList p : Int) := ⟨_, rfl⟩
    obtain ⟨E, hEE⟩ : ∃ E : Int, E = rdE t.data.toList p := ⟨_, rfl⟩
    have HVE : Hid (V = (rdN t.data.toList p : Int) ∧ E = rdE t.data.toList p) := ⟨hVV, hEE⟩
    rw [← hVV, ← hEE]
    generalize plV s.data.toList = pl at *
    clear hV hX e0 Hr hG hVV hEE vb hp HA
    go_enter Tryd.func7, Tryd.ntmps7
    go_wp2_with fail
    refine (pa _).mono ?_
    rintro e y1 ⟨rfl, b1⟩
    go_wp2_with fail
    refine (pr _ (gl_below HG.out b1)).mono ?_
    rintro e y2 ⟨rfl, hy⟩
    have b2 := keepB b1 hy
    clear hy b1
    go_wp2_with fail
    refine (pt _ (gl_below HG.out b2)).mono ?_
    rintro e y3 ⟨hcase, hy⟩
    have b3 := keepB b2 hy
    clear hy b2 pa pr pt
    rcases hcase with ⟨v, hv, rfl⟩ | ⟨hno, v, N, rfl⟩
    · have Hv : Hid (at0 t.data.toList = .ok v) := hv
      clear hv
      go_wp2_with fail
      refine (ps v _ (gl_below HG.out b3)).mono ?_
      rintro e y4 ⟨rfl, hy⟩
      have b4 := keepB b3 hy
      clear hy b3 ps
      cases hA : isA v
      · have hM : Hid (V = 0 ∧ E = 71) := by
          show _ ∧ _
          obtain ⟨m1, m2⟩ := rd_miss t.data.toList p (fun u hu h => by
            have e := HH.out u hu h
            rw [Hv.out] at e
            injection e with e
            rw [e, (isA_iff (u : Int)).2 (by omega)] at hA; cases hA)
          rw [HVE.out.1, HVE.out.2, m1, m2]; exact ⟨rfl, rfl⟩
        rw [HS2.out v hA]
        generalize swT v s.data.toList = R at *
        go_wp2_with fail
        all_goals
          go_ret2
          exact ⟨by rw [hM.out.1, hM.out.2]; rfl, b4⟩
      · obtain ⟨h1, h2⟩ := HS.out v hA
        rw [h2]
        have hv0 := (isA_iff v).1 hA
        cases hf : ((swT v s.data.toList).toList == t.toList)
        · have hM : Hid (V = 0 ∧ E = 71) := by
            show _ ∧ _
            obtain ⟨m1, m2⟩ := rd_miss t.data.toList p (fun u hu h => by
              have e := HH.out u hu h
              rw [Hv.out] at e
              injection e with e
              rw [beq_eq_false_iff_ne, toL, toL, h1, e, Int.toNat_natCast] at hf
              exact hf h)
            rw [HVE.out.1, HVE.out.2, m1, m2]; exact ⟨rfl, rfl⟩
          generalize swT v s.data.toList = R at *
          clear h1 h2 hA hv0
          go_wp2_with fail
          all_goals
            go_ret2
            exact ⟨by rw [hM.out.1, hM.out.2]; rfl, b4⟩
        · have hM : Hid (V = v ∧ E = 0) := by
            show _ ∧ _
            rw [beq_iff_eq, toL, toL, h1] at hf
            obtain ⟨m1, m2⟩ := rd_hit t.data.toList p v.toNat (by omega) hf
            rw [HVE.out.1, HVE.out.2, m1, m2]; exact ⟨by omega, rfl⟩
          generalize swT v s.data.toList = R at *
          clear h1 h2 hA hv0
          go_wp2_with fail
          all_goals
            go_ret2
            exact ⟨by rw [hM.out.1, hM.out.2]; rfl, b4⟩
    · have hM : Hid (V = 0 ∧ E = 71) := by
        show _ ∧ _
        obtain ⟨m1, m2⟩ := rd_miss t.data.toList p (fun u hu h => hno _ (HH.out u hu h))
        rw [HVE.out.1, HVE.out.2, m1, m2]; exact ⟨rfl, rfl⟩
      clear hno ps
      go_wp2_with fail
      go_ret2
      exact ⟨by rw [hM.out.1, hM.out.2]; rfl, b3⟩
  · have hV : rdV t.data.toList s.data.toList = 0 := by rw [rdV, if_neg (by rw [e0]; decide)]
    have hX : rdX t.data.toList s.data.toList = 70 := by rw [rdX, if_neg (by rw [e0]; decide)]
    rw [hV, hX]
    rw [e0] at pa
    generalize plV s.data.toList = p at *
    clear hV hX e0 hG
    go_enter Tryd.func7, Tryd.ntmps7
    go_wp2_with fail
    refine (pa _).mono ?_
    rintro e y1 ⟨rfl, b1⟩
    go_wp2_with fail
    go_ret2
    exact ⟨rfl, b1⟩
end Go.Proofs.YtgojcebdlafbeaaDoor.Rd
