/- The law's way to a node. -/
import Derived.Test.YtgidjfhlooggkabAl
import Derived.Test.YtgidjfhlooggkabMk
namespace Go.Proofs.Ytgidjfhlooggkab.Wy
set_option linter.unusedVariables false
set_option linter.unusedSimpArgs false
open Go.RowKit Kb Ga Gb Gc Gd Nt Wk Gj Al
theorem steps_ge : ∀ (d : Nat) (ts : List AT), ∀ x ∈ steps d ts, d ≤ x.1
  | d, [], x, hx => by simp [steps] at hx
  | d, .mk t v kv ks :: ts, x, hx => by
    simp only [steps, List.mem_cons, List.mem_append] at hx
    rcases hx with rfl | hx | hx
    · exact Nat.le_refl _
    · have := steps_ge (d + 1) ks x hx; omega
    · exact steps_ge d ts x hx
theorem steps_top : ∀ (d : Nat) (ts : List AT), ∀ x ∈ steps d ts, x.1 = d → ∃ a ∈ ts, a.tag = x.2.tag
  | d, [], x, hx, _ => by simp [steps] at hx
  | d, .mk t v kv ks :: ts, x, hx, h => by
    simp only [steps, List.mem_cons, List.mem_append] at hx
    rcases hx with rfl | hx | hx
    · exact ⟨_, by simp, rfl⟩
    · have := steps_ge (d + 1) ks x hx; omega
    · obtain ⟨a, ha, e⟩ := steps_top d ts x hx h
      exact ⟨a, by simp [ha], e⟩
theorem steps_pre : ∀ (d : Nat) (ts : List AT) (l : List El) (x : El) (r : List El), steps d ts = l ++ x :: r → d < x.1 → ∃ y ∈ l, y.1 + 1 = x.1
  | d, [], l, x, r, h, _ => by simp [steps] at h
  | d, .mk t v kv ks :: ts, l, x, r, h, hd => by
    simp only [steps] at h
    cases l with
    | nil =>
      simp only [List.nil_append, List.cons.injEq] at h
      have := h.1
      subst this
      simp at hd
    | cons b l =>
      simp only [List.cons_append, List.cons.injEq] at h
      obtain ⟨rfl, h⟩ := h
      rcases List.append_eq_append_iff.1 h with ⟨m, h1, h2⟩ | ⟨m, h1, h2⟩
      · obtain ⟨y, hy, e⟩ := steps_pre d ts m x r h2 hd
        exact ⟨y, by rw [h1]; simp [hy], e⟩
      · cases m with
        | nil =>
          simp only [List.nil_append] at h2
          obtain ⟨y, hy, e⟩ := steps_pre d ts [] x r (by rw [← h2]; rfl) hd
          simp at hy
        | cons c m =>
          simp only [List.cons_append, List.cons.injEq] at h2
          obtain ⟨rfl, h2⟩ := h2
          by_cases hx : d + 1 < x.1
          · obtain ⟨y, hy, e⟩ := steps_pre (d + 1) ks l x m h1 hx
            exact ⟨y, by simp [hy], e⟩
          · refine ⟨(d, AT.mk t v kv ks), by simp, ?_⟩
            have := steps_ge (d + 1) ks x (by rw [h1]; simp)
            show d + 1 = x.1
            omega
theorem sc_at : ∀ (S : List El) (k : Nat) (x : El), S[k]? = some x → (sc S)[k * 4]? = some (.int .i64 (x.1 : Int)) ∧ (sc S)[k * 4 + 1]? = some (.int .i64 x.2.tag)
  | [], k, x, h => by simp at h
  | y :: S, 0, x, h => by
    simp only [List.getElem?_cons_zero, Option.some.injEq] at h
    subst h
    exact ⟨rfl, rfl⟩
  | y :: S, k + 1, x, h => by
    have := sc_at S k x (by simpa using h)
    have e : sc (y :: S) = [.int .i64 (y.1 : Int), .int .i64 y.2.tag, .string y.2.val, y.2.kv] ++ sc S := by simp [sc]
    rw [e, List.getElem?_append_right (by simp; omega), List.getElem?_append_right (by simp; omega)]
    refine ⟨?_, ?_⟩
    · rw [← this.1]; congr 1; simp; omega
    · rw [← this.2]; congr 1; simp; omega
/-- how deep, with which tag -/
structure Sees (ts : List AT) (L : Nat) (dp : Nat → Nat) (tg : Nat → Int) : Prop where
  bd : ∀ k, k < L → 1 ≤ dp k ∧ dp k ≤ 1000 ∧ -9223372036854775808 ≤ tg k ∧ tg k ≤ 9223372036854775807
  up : ∀ k, k < L → 1 < dp k → ∃ j, j < k ∧ dp j + 1 = dp k
  top : ∀ k, k < L → dp k = 1 → ∃ a ∈ ts, a.tag = tg k
theorem sees_of {y : World} {base : Nat} {v : Value} {ts : List AT} {w0 : World} {u : Value} (hr : Rdn w0 u ts) (hd : dep ts ≤ 900) (h : y.ownsRow base 61 4 v (steps 1 ts).length (sc (steps 1 ts))) :
    ∃ dp tg, Sees ts (steps 1 ts).length dp tg ∧ ∀ k, k < (steps 1 ts).length → ∃ a c, v = .slice (some a) (steps 1 ts).length c ∧ y.cell? (a.add (k * 4)) = some (.int .i64 (dp k : Int)) ∧ y.cell? ⟨(a.add (k * 4)).block, (a.add (k * 4)).off + 1, none⟩ = some (.int .i64 (tg k)) := by
  refine ⟨fun k => ((steps 1 ts).map (·.1)).getD k 0, fun k => ((steps 1 ts).map (·.2.tag)).getD k 0, ⟨?_, ?_, ?_⟩, ?_⟩
  · intro k hk
    have e : (steps 1 ts)[k]? = some (steps 1 ts)[k] := List.getElem?_eq_getElem hk
    have m := List.getElem_mem hk
    have h1 := steps_ge 1 ts _ m
    have h2 := Wr.steps_dep 1 ts _ m
    have h3 := (Wr.steps_read 1 ts hr.kids _ m).2.2
    simp only [List.getD_eq_getElem?_getD, List.getElem?_map, e, Option.map_some, Option.getD_some]
    exact ⟨h1, by omega, h3.1, h3.2⟩
  · intro k hk hlt
    have e : (steps 1 ts)[k]? = some (steps 1 ts)[k] := List.getElem?_eq_getElem hk
    simp only [List.getD_eq_getElem?_getD, List.getElem?_map, e, Option.map_some, Option.getD_some] at hlt ⊢
    have sp : steps 1 ts = (steps 1 ts).take k ++ (steps 1 ts)[k] :: (steps 1 ts).drop (k + 1) := by
      rw [← List.drop_eq_getElem_cons hk, List.take_append_drop]
    obtain ⟨y, hy, ey⟩ := steps_pre 1 ts _ _ _ sp hlt
    obtain ⟨j, hj, rfl⟩ := List.getElem_of_mem hy
    rw [List.length_take] at hj
    refine ⟨j, by omega, ?_⟩
    rw [List.getElem?_eq_getElem (by omega)]
    simp only [Option.map_some, Option.getD_some]
    rw [List.getElem_take] at ey
    exact ey
  · intro k hk h1
    have e : (steps 1 ts)[k]? = some (steps 1 ts)[k] := List.getElem?_eq_getElem hk
    simp only [List.getD_eq_getElem?_getD, List.getElem?_map, e, Option.map_some, Option.getD_some] at h1 ⊢
    exact steps_top 1 ts _ (List.getElem_mem hk) h1
  · intro k hk
    have e : (steps 1 ts)[k]? = some (steps 1 ts)[k] := List.getElem?_eq_getElem hk
    obtain ⟨s0, s1⟩ := sc_at _ k _ e
    rcases h.2 with ⟨_, hz⟩ | ⟨g, cap, cur, hv, r⟩
    · omega
    · subst hv
      refine ⟨_, _, rfl, ?_, ?_⟩
      · simp only [List.getD_eq_getElem?_getD, List.getElem?_map, e, Option.map_some, Option.getD_some]
        exact h.cells (g := g) rfl _ _ s0
      · simp only [List.getD_eq_getElem?_getD, List.getElem?_map, e, Option.map_some, Option.getD_some]
        have := h.cells (g := g) rfl _ _ s1
        rw [add0] at this ⊢
        exact this
/-- numbers as cells -/
def ic (ps : List Int) : List Value := ps.map fun x => .int .i64 x
theorem ints_of {y : World} {base n : Nat} {v : Value} {ps : List Int} (hl : ps.length = n) (h : y.ownsRow base 3 1 v n (ic ps)) (hn : n ≤ 1048576) : Fd.ints y v ps := by
  subst hl
  rcases h.2 with ⟨rfl, hz⟩ | ⟨g, cap, cur, rfl, r⟩
  · exact ⟨none, 0, by rw [hz], hn, fun i hi => by omega⟩
  · refine ⟨_, cap, rfl, hn, fun i hi => ⟨_, rfl, ?_⟩⟩
    exact h.cells (g := g) rfl i _ (by simp [ic, hi])
theorem infoI : (Try.prog.info? 3).map (fun i => (i.zero, i.size, i.bytes)) = some (some (.int .i64 0), 1, 8) := by kernel_rfl
/-- what a way is -/
structure Way (ts : List AT) (ps : List Int) : Prop where
  few : ps.length ≤ 1000
  nil : ts = [] → ps = []
  some_ : ts ≠ [] → ps ≠ []
  one : ps.length = 1 → ∃ a ∈ ts, [a.tag] = ps
def PostW (w : World) (ts : List AT) (e : Ending) (w' : World) : Prop := ∃ p ps, e = .returned p ∧ Fd.ints w' p ps ∧ Way ts ps ∧ Below w.heap.size w w'
theorem own_one (w : World) (base : Nat) (x : Int) (hb : base ≤ w.heap.size) : (w.alloc (.cells #[.int .i64 x] 3)).ownsRow base 3 1 (.slice (some ⟨w.heap.size, 0, none⟩) 1 1) 1 (ic [x]) :=
  ⟨rfl, .inr ⟨w.heap.size, 1, #[.int .i64 x], rfl, hb, heap_alloc_new w _, Nat.le_refl _, by unfold maxLen; omega, rfl, rfl⟩⟩
set_option maxRecDepth 100000 in
set_option maxHeartbeats 3200000 in
theorem way_any (ts : List AT) (v : Value) (n : Int) (w : World) (hr : Rdn w v ts) (hL : (steps 1 ts).length ≤ 1000) (hd : dep ts ≤ 900) (hn : -9223372036854775808 ≤ n) (hn2 : n ≤ 9223372036854775807) :
    Calls Try.prog 16 #[v, .int .i64 n] w (PostW w ts) := by
  have c := all_ref ts v w hr hL (by omega)
  have HSE : Hid (∀ (y : World) (v' : Value), y.ownsRow w.heap.size 61 4 v' (steps 1 ts).length (sc (steps 1 ts)) → ∃ dp tg, Sees ts (steps 1 ts).length dp tg ∧ ∀ k, k < (steps 1 ts).length → ∃ a c, v' = .slice (some a) (steps 1 ts).length c ∧ y.cell? (a.add (k * 4)) = some (.int .i64 (dp k : Int)) ∧ y.cell? ⟨(a.add (k * 4)).block, (a.add (k * 4)).off + 1, none⟩ = some (.int .i64 (tg k))) := fun y v' h => sees_of hr hd h
  have HE : Hid (steps 1 ts = [] ↔ ts = []) := by
    show _ ↔ _
    cases ts with
    | nil => simp [steps]
    | cons a ts => cases a; simp [steps]
  obtain ⟨o, cap, e, hN, -⟩ := hr.row
  obtain ⟨N, HN⟩ : ∃ N : Nat, Hid (ts.length = N) := ⟨_, rfl⟩
  rw [HN.out] at e
  subst e
  obtain ⟨ia, hia, hza0, hza1, hza2⟩ := info_parts infoI
  obtain ⟨LS, HLS⟩ : ∃ LS : Nat, Hid ((steps 1 ts).length = LS) := ⟨_, rfl⟩
  rw [HLS.out] at hL
  clear hr hN
  go_enter Try.func16, Try.ntmps16
  go_wp2_with fail
  refine c.mono ?_
  clear c
  rintro _ y ⟨sv, rfl, h1, h2, hb⟩
  obtain ⟨dp, tg, hse, hcl⟩ := HSE.out y sv h1
  rw [HLS.out] at h1 hse hcl
  obtain ⟨so, scp, rfl⟩ := formN h1
  clear HSE
  by_cases hz : LS = 0
  · subst hz
    have HT : Hid (ts = []) := HE.out.1 (List.eq_nil_of_length_eq_zero HLS.out)
    go_wp2
    go_ret
    exact ⟨_, [], rfl, ⟨none, 0, rfl, by simp, fun i hi => absurd hi (by simp)⟩, ⟨by simp, fun _ => rfl, fun h => absurd HT.out h, by simp⟩, hb⟩
  · have hz' : ((LS : Int) == 0) = false := by simpa using hz
    have HT : Hid (ts ≠ []) := fun h => hz (by rw [← HLS.out, HE.out.2 h]; rfl)
    have pb := Mk.pk_bd n (LS : Int) (by omega)
    obtain ⟨K, hK⟩ : ∃ K : Nat, Mk.pk n (LS : Int) = (K : Int) := ⟨(Mk.pk n (LS : Int)).toNat, by omega⟩
    have pa := fun y => Mk.pick_any n (LS : Int) y hn hn2 (by omega) (by omega)
    rw [hK] at pb
    simp only [hK] at pa
    have hKL : K < LS := by omega
    have hK0 : (K : Int) < (LS : Int) := by omega
    have HCL : Hid (∀ k, k < LS → ∃ a, so = some a ∧ y.cell? (a.add (k * 4)) = some (.int .i64 (dp k : Int)) ∧ y.cell? ⟨(a.add (k * 4)).block, (a.add (k * 4)).off + 1, none⟩ = some (.int .i64 (tg k))) := fun k hk => by
      obtain ⟨a, c', e, q0, q1⟩ := hcl k hk
      injection e with e1
      exact ⟨a, e1, q0, q1⟩
    have HSE : Hid (Sees ts LS dp tg) := hse
    obtain ⟨a, ea, q0, q1⟩ := HCL.out K hKL
    subst ea
    have hDK := hse.bd K hKL
    obtain ⟨D, HD⟩ : ∃ D : Nat, Hid (dp K = D) := ⟨_, rfl⟩
    rw [HD.out] at hDK q0
    have hD1 := hDK.1
    have hD2 := hDK.2.1
    clear hK pb h1 h2 hcl hse q1 hDK HLS HE
    go_wp2_with fail
    refine (pa _).mono ?_
    rintro _ y' ⟨rfl, rfl⟩
    clear pa
    go_wp2_with fail
    go_loopw [7, 8, 9] (fun vo vd vi wr => ∃ (i deep : Int) (ps : List Int) (M : Nat), vi = .int .i64 i ∧ vd = .int .i64 deep ∧ -1 ≤ i ∧ i ≤ (K : Int) ∧ 0 ≤ deep ∧ (M : Int) + deep = (D : Int) ∧ Hid (ps.length = M) ∧ wr.ownsRow w.heap.size 3 1 vo M (ic ps) ∧ (M = 0 → vo = .slice none 0 0) ∧ Hid ((M = 0 → i = (K : Int)) ∧ (0 < M → i < (K : Int)) ∧ (M = 1 → ps = [tg K] ∧ ∀ j : Nat, i < (j : Int) → j < K → dp j + 1 ≠ D)) ∧ Below w.heap.size w wr ∧ Below y'.heap.size y' wr) (fun _ _ vi _ => (intOf vi + 1).toNat)
    case atStart => exact ⟨(K : Int), (D : Int), [], 0, rfl, rfl, by omega, by omega, by omega, by omega, rfl, World.ownsRow_nil _ _ _ _, fun _ => rfl, ⟨fun _ => rfl, by omega, by omega⟩, hb, Below.refl _ _⟩
    case round =>
      obtain ⟨i, deep, ps, M, rfl, rfl, hi0, hi1, hd0, hM, HPL, ho, hnil, HF, hwr, hyr⟩ := hrel
      rename World => wr
      obtain ⟨uo, uc, rfl⟩ := formN ho
      have HO : Hid (World.ownsRow wr w.heap.size 3 1 (.slice uo M uc) M (ic ps)) := ho
      have HNL : Hid (M = 0 → Value.slice uo M uc = .slice none 0 0) := hnil
      clear ho hnil
      have hMb : M ≤ 1000 := by omega
      have hsw : w.heap.size ≤ wr.heap.size := hwr.size
      -- the end
      have fin : ¬ (0 ≤ i ∧ 0 < deep) → Way ts ps := fun hx => by
        obtain ⟨f1, f2, f3⟩ := HF.out
        have hpl := HPL.out
        have hM0 : M ≠ 0 := fun h0 => hx ⟨by have := f1 h0; omega, by omega⟩
        refine ⟨by omega, fun h => absurd h HT.out, fun _ h => hM0 (by rw [← hpl, h]; rfl), fun h1 => ?_⟩
        have hM1 : M = 1 := by omega
        obtain ⟨e1, e2⟩ := f3 hM1
        by_cases hdd : D = 1
        · obtain ⟨a, ha, et⟩ := HSE.out.top K hKL (by rw [HD.out]; exact hdd)
          exact ⟨a, ha, by rw [e1, et]⟩
        · obtain ⟨j, hj, ej⟩ := HSE.out.up K hKL (by rw [HD.out]; omega)
          rw [HD.out] at ej
          exact absurd ej (e2 j (by omega) hj)
      by_cases g1 : 0 ≤ i
      · by_cases g2 : 0 < deep
        · obtain ⟨I, rfl⟩ : ∃ I : Nat, i = (I : Int) := ⟨i.toNat, by omega⟩
          have hIL : I < LS := by omega
          have hIL' : (I : Int) < (LS : Int) := by omega
          obtain ⟨a', ea', r0, r1⟩ := HCL.out I hIL
          obtain rfl : a = a' := by injection ea'
          have s0 := (hyr.cell (World.block_lt_of_cell? y' _ r0)).trans r0
          have s1 := (hyr.cell (World.block_lt_of_cell? y' _ r1)).trans r1
          have tb := (HSE.out.bd I hIL).2.2
          clear fin r0 r1 ea' q0
          by_cases g3 : (dp I : Int) = deep
          · have g3' : ((dp I : Int) == deep) = true := by simpa using g3
            have HPS : Hid ((tg I :: ps).length = M + 1) := by show _ = _; rw [List.length_cons, HPL.out]
            have HF2 : Hid ((M + 1 = 0 → (I : Int) - 1 = (K : Int)) ∧ (0 < M + 1 → (I : Int) - 1 < (K : Int)) ∧ (M + 1 = 1 → tg I :: ps = [tg K] ∧ ∀ j : Nat, (I : Int) - 1 < (j : Int) → j < K → dp j + 1 ≠ D)) := by
              obtain ⟨f1, f2, f3⟩ := HF.out
              refine ⟨by omega, by omega, fun h => ?_⟩
              have h0 : M = 0 := by omega
              have e := f1 h0
              obtain rfl : I = K := by omega
              exact ⟨by rw [List.eq_nil_of_length_eq_zero (HPL.out.trans h0)], fun j h1 h2 => by omega⟩
            obtain ⟨dv, HDV⟩ : ∃ dv : Nat, Hid (dp I = dv) := ⟨_, rfl⟩
            obtain ⟨tv, HTV⟩ : ∃ tv : Int, Hid (tg I = tv) := ⟨_, rfl⟩
            rw [HDV.out] at s0 g3'
            rw [HTV.out] at s1 tb HPS HF2
            have O1 := own_one wr w.heap.size tv hsw
            have b1 := below_one wr (.cells #[.int .i64 tv] 3)
            have HO2 : Hid (World.ownsRow (wr.alloc (.cells #[.int .i64 tv] 3)) w.heap.size 3 1 (.slice uo M uc) M (ic ps)) := HO.out.alloc _
            have hsa : (wr.alloc (.cells #[.int .i64 tv] 3)).heap.size = wr.heap.size + 1 := by simp
            clear HO g3 HF tb
            by_cases hM0 : M = 0
            · have e0 := HNL.out hM0
              subst hM0
              obtain ⟨rfl, rfl⟩ : uo = none ∧ uc = 0 := by
                injection e0 with e1 e2 e3
                exact ⟨e1, e3⟩
              have HP0 : Hid (ps = []) := List.eq_nil_of_length_eq_zero HPL.out
              go_wp2_with (at_builtin; refine wpList_append_own_none rfl _ _ _ rfl w.heap.size 3 ia 1 Try.underlying30 hia _ 1 _ rfl O1 rfl ?_)
              refine ⟨⟨(I : Int) - 1, deep - 1, tv :: ps, 1, rfl, rfl, by omega, by omega, by omega, by omega, HPS, ?_, by omega, HF2, keepB hwr b1, keepB hyr b1⟩, by simp [intOf]⟩
              rw [HP0.out]
              exact O1
            · obtain ⟨g2b, HC2⟩ : ∃ g2b, uo = some ⟨g2b, 0, none⟩ ∧ Hid (∀ j u, (ic ps)[j]? = some u → (wr.alloc (.cells #[.int .i64 tv] 3)).cell? ((⟨g2b, 0, none⟩ : Addr).add j) = some u) := by
                rcases HO2.out.2 with ⟨_, hz⟩ | ⟨g, cap, cur, hv, r⟩
                · omega
                · injection hv with e1 e2 e3
                  subst e1
                  exact ⟨g, rfl, fun j u hu => HO2.out.cells (g := g) rfl j u hu⟩
              obtain ⟨rfl, HC2⟩ := HC2
              have HQL : Hid ((ic ps).length = M * 1) := by show _ = _; simp [ic, HPL.out]
              have HQ1 : Hid (∀ u ∈ ic ps, u.oneCell' = true) := fun u hu => by
                unfold ic at hu
                rw [List.mem_map] at hu
                obtain ⟨x, _, rfl⟩ := hu
                rfl
              go_wp2_with (at_builtin; refine wpList_append_lies _ rfl _ _ _ rfl w.heap.size 3 ia _ 1 8 Try.underlying30 hia hza0 hza1 hza2 rfl (by omega) _ 1 _ rfl O1 ⟨g2b, 0, Option.none⟩ M uc (ic ps) rfl HQL.out HC2.out HQ1.out (by omega) (by unfold maxLen; omega) (by omega) (by omega) (wr.heap.size + 1) hsa ?_; intro g3 c3 w3 own3 gr3 hat3 hlt3)
              have B3 : Below w.heap.size (wr.alloc (.cells #[.int .i64 tv] 3)) w3 := (Below.refl w.heap.size _).grown gr3 (by omega) fun k hk => (O1.lt k hk).1
              have B4 : Below y'.heap.size (wr.alloc (.cells #[.int .i64 tv] 3)) w3 := (Below.refl y'.heap.size _).grown gr3 (by have := hyr.size; omega) fun k hk => by
                have : k = wr.heap.size := by injection hk with hk; exact hk.symm
                have := hyr.size; omega
              refine ⟨⟨(I : Int) - 1, deep - 1, tv :: ps, M + 1, rfl, rfl, by omega, by omega, by omega, by omega, HPS, ?_, by omega, HF2, (keepB hwr b1).trans B3, (keepB hyr b1).trans B4⟩, by simp [intOf]⟩
              rw [show M + 1 = 1 + M by omega]
              exact own3
          · have g3' : ((dp I : Int) == deep) = false := by simpa using g3
            have HF2 : Hid ((M = 0 → (I : Int) - 1 = (K : Int)) ∧ (0 < M → (I : Int) - 1 < (K : Int)) ∧ (M = 1 → ps = [tg K] ∧ ∀ j : Nat, (I : Int) - 1 < (j : Int) → j < K → dp j + 1 ≠ D)) := by
              obtain ⟨f1, f2, f3⟩ := HF.out
              refine ⟨fun h => ?_, fun h => by have := f2 h; omega, fun h => ⟨(f3 h).1, fun j h1 h2 => ?_⟩⟩
              · have e := f1 h
                obtain rfl : I = K := by omega
                exact absurd (show (dp I : Int) = deep by rw [HD.out]; omega) g3
              · by_cases hj : j = I
                · subst hj; intro e; exact g3 (by omega)
                · exact (f3 h).2 j (by omega) h2
            obtain ⟨dv, HDV⟩ : ∃ dv : Nat, Hid (dp I = dv) := ⟨_, rfl⟩
            rw [HDV.out] at s0 g3'
            clear HF g3 s1
            go_wp2
            exact ⟨⟨(I : Int) - 1, deep, ps, M, rfl, rfl, by omega, by omega, by omega, by omega, HPL, HO.out, HNL.out, HF2, hwr, hyr⟩, by simp [intOf]⟩
        · have HW : Hid (Way ts ps) := fin (by omega)
          clear fin
          go_wp2
          go_ret
          exact ⟨_, ps, rfl, ints_of HPL.out HO.out (by omega), HW.out, hwr⟩
      · have HW : Hid (Way ts ps) := fin (by omega)
        clear fin
        go_wp2
        go_ret
        exact ⟨_, ps, rfl, ints_of HPL.out HO.out (by omega), HW.out, hwr⟩
end Go.Proofs.Ytgidjfhlooggkab.Wy
