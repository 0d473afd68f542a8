/- journal.entryOf. -/
import Derived.Test.YtabmpngliphdpaaDoorJp
import Derived.Deep.Onto
namespace Go.Proofs.YtabmpngliphdpaaDoor.Jq
set_option linter.unusedVariables false
set_option linter.unusedSimpArgs false
open Go.RowKit Lib0 Kb Jl Jm Jn Jo Jp
attribute [local go_sem] Oper.semAt_some
/-- the empty entry -/
def enZ : Array Value := #[.int .i64 0, .int .i64 0, .int .i64 0, .string ⟨#[]⟩, .slice none 0 0]
/-- is it a body? -/
def isB (l : List UInt8) : Bool := osR (evR (some l)) == some []
theorem gb_lower {a b : World} {g : Nat} (h : a.grownBy b (some g)) (hg : a.heap.size ≤ g) : Below a.heap.size a b :=
  ⟨h.os, h.tape, h.output, h.size, fun k hk => h.block k hk (fun e => by have := Option.some.inj e; omega)⟩
theorem res_cell2 (z0 : (Tryd.prog.info? 40).map (·.size) = some 5) {g : Nat} (x : World) (c : Array Value) (b : Bool) (tm : Array Value) (h2 : tm.getD 2 undef = .pointer (some ⟨g, 0, none⟩)) (h3 : tm.getD 3 undef = .bool b) (hc : c.size = 5) (hx : x.heap[g]? = some (.cells c 40 (0, 0))) : (results Tryd.f75 tm).run Tryd.prog x = .ok (.tuple #[.agg c, .bool b]) x := by
  have h2' : tm[2]?.getD undef = .pointer (some ⟨g, 0, none⟩) := by simpa using h2
  have h3' : tm[3]?.getD undef = .bool b := by simpa using h3
  obtain ⟨a0, a1, a2, a3, a4, rfl⟩ : ∃ a0 a1 a2 a3 a4, c = #[a0, a1, a2, a3, a4] := by
    obtain ⟨L⟩ := c
    match L, hc with
    | [a0, a1, a2, a3, a4], _ => exact ⟨a0, a1, a2, a3, a4, rfl⟩
  have c0 : x.cell? ⟨g, 0, none⟩ = some a0 := by simp [World.cell?, hx]
  have c1 : x.cell? ⟨g, 1, none⟩ = some a1 := by simp [World.cell?, hx]
  have c2 : x.cell? ⟨g, 2, none⟩ = some a2 := by simp [World.cell?, hx]
  have c3 : x.cell? ⟨g, 3, none⟩ = some a3 := by simp [World.cell?, hx]
  have c4 : x.cell? ⟨g, 4, none⟩ = some a4 := by simp [World.cell?, hx]
  simp [results, Tryd.results75, go_sem, h2', h3', asAddr, c0, c1, c2, c3, c4]
set_option maxRecDepth 100000 in
set_option maxHeartbeats 1600000 in
theorem entryOf_any (s : ByteArray) (hs : s.size ≤ 10000000) (w : World) :
    Calls Tryd.prog 75 #[.string s] w fun e w' => (∃ c, e = .returned (.tuple #[.agg c, .bool (isB s.data.toList)]) ∧ (isB s.data.toList = true → ∃ v N, c = evV (some s.data.toList) ++ #[v] ∧ w'.ownsRow w.heap.size 85 5 v N (osV (evR (some s.data.toList)))) ∧ (isB s.data.toList = false → c = enZ)) ∧ Below w.heap.size w w' := by
  obtain ⟨l, hl⟩ : ∃ l, s.data.toList = l := ⟨_, rfl⟩
  rw [hl]
  obtain ⟨W0, HW0⟩ : ∃ W, Hid (w.alloc (.cells #[.int .i64 0, .int .i64 0, .int .i64 0, .string ⟨#[]⟩, .slice none 0 0] 40) = W) := ⟨_, rfl⟩
  obtain ⟨W1, HW1⟩ : ∃ W, Hid (W0.alloc (.cells #[.string s, .bool false] 167) = W) := ⟨_, rfl⟩
  have hb0 : Below w.heap.size w W0 := HW0.out ▸ below_one _ _
  have hb1 : Below W0.heap.size W0 W1 := HW1.out ▸ below_one _ _
  have hs0 : W0.heap.size = w.heap.size + 1 := by rw [← HW0.out]; simp
  have hx0 : W0.heap[w.heap.size]? = some (.cells enZ 40 (0, 0)) := HW0.out ▸ h1_0 _ _
  have hx1 : W1.heap[W0.heap.size]? = some (.cells #[.string s, .bool false] 167 (0, 0)) := HW1.out ▸ h1_0 _ _
  have HR1 : Hid (Rd W1 W0.heap.size (some l)) := ⟨s, false, hx1, rfl, hl⟩
  have HFT : Hid (Fit (some l)) := fun l' h' => by cases h'; rw [← hl, ← size_list]; exact hs
  have HB1 : Hid (Below w.heap.size w W1) := keepB hb0 hb1
  have HX1 : Hid (W1.heap[w.heap.size]? = some (.cells enZ 40 (0, 0))) := (hb1.block _ (by omega)).trans hx0
  have HS0 : Hid (W0.heap.size = w.heap.size + 1) := hs0
  clear hb0 hb1 hx0 hx1 hs0 hs
  go_enter Tryd.func75, Tryd.ntmps75
  go_wp2_with (first | (rw [HW0.out]) | (rw [HW1.out]) | fail)
  obtain ⟨g, hg⟩ : ∃ g, W0.heap.size = g := ⟨_, rfl⟩
  rw [hg] at HR1 HS0 ⊢
  clear hg
  refine (event_any HR1.out HFT.out.sm).mono ?_
  rintro e y1 ⟨rfl, hy1, hg1⟩
  have HY1 : Hid (Rd y1 g (evR (some l))) := hy1
  have HG1 : Hid (W1.grownBy y1 (some g)) := hg1
  obtain ⟨n1, n2, n3, tx, hT⟩ : ∃ n1 n2 n3 tx, evV (some l) = #[.int .i64 n1, .int .i64 n2, .int .i64 n3, .string tx] := ⟨_, _, _, _, rfl⟩
  have HT : Hid (evV (some l) = #[.int .i64 n1, .int .i64 n2, .int .i64 n3, .string tx]) := hT
  rw [hT]
  clear hy1 hg1 hT
  go_wp2_with fail
  refine (outputs_any HY1.out HFT.out.ev).mono ?_
  rintro e y2 ⟨v, N, rfl, ho, hy2, hg2⟩
  obtain ⟨so, cap, rfl⟩ := Bd.owns_sl ho
  obtain ⟨W3, HW3⟩ : ∃ W, Hid (y2.alloc (.cells #[.int .i64 n1, .int .i64 n2, .int .i64 n3, .string tx, .slice so N cap] 40) = W) := ⟨_, rfl⟩
  have HG2 : Hid (W1.grownBy y2 (some g)) := gb_trans HG1.out hg2
  have HO : Hid (y2.ownsRow y1.heap.size 85 5 (.slice so N cap) N (osV (evR (some l)))) := ho
  have HY2 : Hid (Rd y2 g (osR (evR (some l)))) := hy2
  have z0 : (Tryd.prog.info? 40).map (·.size) = some 5 := by kernel_rfl
  have hb3 : Below y2.heap.size y2 W3 := HW3.out ▸ below_one _ _
  have hgw : W1.heap.size ≤ y2.heap.size := HG2.out.size
  have hw1 : w.heap.size < W1.heap.size := (Array.getElem?_eq_some_iff.1 HX1.out).1
  have hx3 : W3.heap[y2.heap.size]? = some (.cells #[.int .i64 n1, .int .i64 n2, .int .i64 n3, .string tx, .slice so N cap] 40 (0, 0)) := HW3.out ▸ h1_0 _ _
  have hx2 : W3.heap[w.heap.size]? = some (.cells enZ 40 (0, 0)) := by
    rw [hb3.block _ (by omega), HG2.out.block _ hw1 (fun e => by have := Option.some.inj e; have := HS0.out; omega)]
    exact HX1.out
  have HO3 : Hid (W3.ownsRow y1.heap.size 85 5 (.slice so N cap) N (osV (evR (some l)))) := Bd.owns_keep HO.out fun p hp => hb3.block p (HO.out.lt p hp).2
  have HR3 := Jn.Rd.below HY2.out hb3
  have HB3 : Hid (Below w.heap.size w W3) := by
    refine (HB1.out.trans ?_).trans (hb3.mono (by omega))
    exact ⟨HG2.out.os, HG2.out.tape, HG2.out.output, HG2.out.size, fun k hk => HG2.out.block k (by omega) (fun e => by have := Option.some.inj e; have := HS0.out; omega)⟩
  have HY1S : Hid (w.heap.size < y1.heap.size) := by have := HG1.out.size; show _ < _; omega
  obtain ⟨s3, b3, hr3, hm3⟩ := HR3
  have c0 : W3.cell? ⟨g, 0, none⟩ = some (.string s3) := by simp [World.cell?, hr3]
  have c1 : W3.cell? ⟨g, 1, none⟩ = some (.bool b3) := by simp [World.cell?, hr3]
  have cg : g < W3.heap.size := (Array.getElem?_eq_some_iff.1 hr3).1
  have HIB : Hid (isB l = (osR (evR (some l)) == some [])) := rfl
  obtain ⟨q, hq⟩ : ∃ q, osR (evR (some l)) = q := ⟨_, rfl⟩
  rw [hq] at HIB hm3
  have HX3 : Hid _ := hx3
  have HX2 : Hid (W3.heap[w.heap.size]? = some (.cells enZ 40 (0, 0))) := hx2
  have HBAD : isB l = false → Hid (∃ c, (.returned (.tuple #[.agg enZ, .bool false]) : Ending) = .returned (.tuple #[.agg c, .bool (isB l)]) ∧ (isB l = true → ∃ v N, c = evV (some l) ++ #[v] ∧ (W3.setRow w.heap.size enZ).ownsRow w.heap.size 85 5 v N (osV (evR (some l)))) ∧ (isB l = false → c = enZ)) := fun hf => by
    show ∃ c, _
    refine ⟨enZ, ?_, ?_, ?_⟩
    · rw [hf]
    · intro ht
      rw [hf] at ht; cases ht
    · intro _; rfl
  have HB4 : Hid (Below w.heap.size w (W3.setRow w.heap.size enZ)) := below_setRow HB3.out (Nat.le_refl _) _
  have HX4 : Hid ((W3.setRow w.heap.size enZ).heap[w.heap.size]? = some (.cells enZ 40 (0, 0))) := setRow_at hx2 _
  have o0 : enZ.all (·.oneCell') = true := by simp [enZ, Value.oneCell']
  clear ho hy2 hg2 hb3 hgw hw1 hr3 hq hx3 hx2
  have hres : ∀ (x : World) (c : Array Value) (b : Bool) (tm : Array Value), tm.getD 2 undef = .pointer (some ⟨w.heap.size, 0, none⟩) → tm.getD 3 undef = .bool b → c.size = 5 → x.heap[w.heap.size]? = some (.cells c 40 (0, 0)) → (results Tryd.f75 tm).run Tryd.prog x = .ok (.tuple #[.agg c, .bool b]) x := res_cell2 z0
  cases q with
  | none =>
    obtain rfl : b3 = true := hm3
    have HBD := HBAD (by rw [HIB.out]; rfl)
    clear HBAD
    go_wp2_with (first | (rw [HW3.out]) | (refine wpList_store_row rfl 40 _ _ rfl w.heap.size enZ rfl rfl _ _ HX2.out z0 rfl o0 ?_) | fail)
    refine bodyPost_ret (hres _ enZ false _ ?_ ?_ rfl HX4.out) rfl ⟨HBD.out, HB4.out⟩ <;> rfl
  | some l2 =>
    obtain ⟨rfl, rfl⟩ : b3 = false ∧ s3.data.toList = l2 := hm3
    cases hl2 : s3.data.toList with
    | nil =>
      obtain rfl : s3 = ⟨#[]⟩ := by cases s3; rename_i d; simp at hl2; subst hl2; rfl
      have hok : isB l = true := by rw [HIB.out]; rfl
      have HGD : Hid ((∃ c, (.returned (.tuple #[.agg #[.int .i64 n1, .int .i64 n2, .int .i64 n3, .string tx, .slice so N cap], .bool true]) : Ending) = .returned (.tuple #[.agg c, .bool (isB l)]) ∧ (isB l = true → ∃ v N', c = evV (some l) ++ #[v] ∧ (W3.setRow w.heap.size #[.int .i64 n1, .int .i64 n2, .int .i64 n3, .string tx, .slice so N cap]).ownsRow w.heap.size 85 5 v N' (osV (evR (some l)))) ∧ (isB l = false → c = enZ)) ∧ Below w.heap.size w (W3.setRow w.heap.size #[.int .i64 n1, .int .i64 n2, .int .i64 n3, .string tx, .slice so N cap])) := by
        refine And.intro (Exists.intro #[.int .i64 n1, .int .i64 n2, .int .i64 n3, .string tx, .slice so N cap] (And.intro ?_ (And.intro ?_ ?_))) (below_setRow HB3.out (Nat.le_refl _) _)
        · rw [hok]
        · intro _
          refine ⟨.slice so N cap, N, by rw [HT.out]; rfl, ?_⟩
          refine (Bd.owns_keep HO3.out fun p hp => setRow_ne (by have := (HO3.out.lt p hp).1; have := HY1S.out; omega) _).mono (Nat.le_of_lt HY1S.out)
        · intro hf; rw [hok] at hf; cases hf
      have o1 : (#[.int .i64 n1, .int .i64 n2, .int .i64 n3, .string tx, .slice so N cap] : Array Value).all (·.oneCell') = true := by simp [Value.oneCell']
      have HX5 : Hid ((W3.setRow w.heap.size #[.int .i64 n1, .int .i64 n2, .int .i64 n3, .string tx, .slice so N cap]).heap[w.heap.size]? = some (.cells #[.int .i64 n1, .int .i64 n2, .int .i64 n3, .string tx, .slice so N cap] 40 (0, 0))) := setRow_at HX2.out _
      clear HBAD
      go_wp2_with (first | (rw [HW3.out]) | (refine wpList_load_row rfl 40 _ rfl y2.heap.size rfl _ _ _ _ HX3.out Tryd.underlying40 rfl z0 ?_) | (refine wpList_store_row rfl 40 _ _ rfl w.heap.size _ rfl rfl _ _ HX2.out z0 rfl o1 ?_) | fail)
      obtain ⟨⟨cc, k1, k2, k3⟩, k4⟩ := HGD.out
      refine bodyPost_ret (hres _ _ true _ ?_ ?_ rfl HX5.out) rfl ⟨⟨cc, ?_, ?_, ?_⟩, ?_⟩
      · rfl
      · rfl
      · exact k1
      · exact k2
      · exact k3
      · exact k4
    | cons a t =>
      have HBD := HBAD (by rw [HIB.out, hl2]; rfl)
      have hne : s3.toList.isEmpty = false := by rw [ByteArray.toList_eq, hl2]; rfl
      clear HBAD
      go_wp2_with (first | (rw [HW3.out]) | (refine wpList_store_row rfl 40 _ _ rfl w.heap.size enZ rfl rfl _ _ HX2.out z0 rfl o0 ?_) | fail)
      refine bodyPost_ret (hres _ enZ false _ ?_ ?_ rfl HX4.out) rfl ⟨HBD.out, HB4.out⟩ <;> rfl
end Go.Proofs.YtabmpngliphdpaaDoor.Jq
